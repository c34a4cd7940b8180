/-
  What the walks of all statements use: the functions for which the model stands in; next words as plain functions of bits.
-/
import Derived.Test.YtibpnpigkbodeaaRows
import Derived.Test.YtibpnpigkbodeaaFlt
import Derived.WalkKit
import Derived.WalkSpells
import Derived.WalkLawsBesides
import Derived.Laws.Externs
namespace Go.Proofs.Ytibpnpigkbodeaa
open Go.RowKit Flt

theorem hide {p : Prop} (h : p) : Hid p := h
theorem unhide {p : Prop} (h : Hid p) : p := h.out

theorem run_frombits (n : Int) (w : World) : (callFunc 21 #[.int .u64 n]).run Try.prog w = .ok (.value (.float .f64 n.toNat)) w := by
  rw [run_callFunc_extern (e := Extern.MathFloatBits.float64frombits) (fn := Try.f21) Try.func21 (by kernel_rfl) (by kernel_rfl) (by kernel_rfl) (by kernel_rfl)]
  rfl
theorem run_bits (b : Nat) (w : World) : (callFunc 22 #[.float .f64 b]).run Try.prog w = .ok (.value (.int .u64 b)) w := by
  rw [run_callFunc_extern (e := Extern.MathFloatBits.float64bits) (fn := Try.f22) Try.func22 (by kernel_rfl) (by kernel_rfl) (by kernel_rfl) (by kernel_rfl)]
  rfl

set_option maxHeartbeats 400000 in
theorem of_walk (n : Int) (w : World) :
    Calls Try.prog 6 #[.int .u64 n] w fun e w' => e = .returned (.float .f64 n.toNat) ∧ w' = w := by
  have h1 := run_frombits
  go_enter Try.func6, Try.ntmps6
  go_wp2
  go_ret
  exact ⟨rfl, rfl⟩

/-- The next word above; what stays as it is. -/
def upB (b : Nat) : Nat :=
  if 9218868437227405312 < rung b then b else if b = 9218868437227405312 then b else if rung b = 0 then 1
  else if b < 9223372036854775808 then b + 1 else if b = 9223372036854775809 then 0 else b - 1
def plainB (b : Nat) : Nat := if rung b = 0 then 0 else b
def downB (b : Nat) : Nat := plainB (flip (upB (flip b)))

theorem upB_lt {b : Nat} (hb : b < 18446744073709551616) : upB b < 18446744073709551616 := by
  unfold upB rung; repeat' split
  all_goals omega
theorem plainB_lt {b : Nat} (hb : b < 18446744073709551616) : plainB b < 18446744073709551616 := by
  unfold plainB; split <;> omega

theorem zero_eq {b : Nat} (hb : b < 18446744073709551616) : (FloatKind.f64.format.order b 0 == some .eq) = decide (rung b = 0) := by
  have h := ord_eq (a := b) (b := 0) hb (by decide)
  rw [show FloatKind.f64.format.order b 0 = Ieee.double.order b 0 from rfl, h, Bool.eq_iff_iff]
  simp only [Bool.and_eq_true, Bool.not_eq_true', decide_eq_true_eq, nan_false_iff]
  have h1 := key_spec b
  have h2 := rung_spec b hb
  have h3 : key 0 = 0 := by decide
  have h4 : rung 0 = 0 := by decide
  omega
theorem zero_gt {b : Nat} (hb : b < 18446744073709551616) : (FloatKind.f64.format.order b 0 == some .gt) = decide (0 < b ∧ b ≤ 9218868437227405312) := by
  have h := ord_gt (a := b) (b := 0) hb (by decide)
  rw [show FloatKind.f64.format.order b 0 = Ieee.double.order b 0 from rfl, h, Bool.eq_iff_iff]
  simp only [Bool.and_eq_true, Bool.not_eq_true', decide_eq_true_eq, nan_false_iff]
  have h1 := key_spec b
  have h2 := rung_spec b hb
  have h3 : key 0 = 0 := by decide
  have h4 : rung 0 = 0 := by decide
  omega
theorem self_ne {b : Nat} (hb : b < 18446744073709551616) : (FloatKind.f64.format.order b b != some .eq) = nan b := by
  have h := ord_eq (a := b) (b := b) hb hb
  rw [bne, show FloatKind.f64.format.order b b = Ieee.double.order b b from rfl, h]
  simp
theorem most_gt {b : Nat} (hb : b < 18446744073709551616) : (FloatKind.f64.format.order b 9218868437227405311 == some .gt) = decide (b = 9218868437227405312) := by
  have h := ord_gt (a := b) (b := 9218868437227405311) hb (by decide)
  rw [show FloatKind.f64.format.order b 9218868437227405311 = Ieee.double.order b 9218868437227405311 from rfl, h, Bool.eq_iff_iff]
  simp only [Bool.and_eq_true, Bool.not_eq_true', decide_eq_true_eq, nan_false_iff]
  have h1 := key_spec b
  have h2 := rung_spec b hb
  have h3 : key 9218868437227405311 = 9218868437227405311 := by decide
  have h4 : rung 9218868437227405311 = 9218868437227405311 := by decide
  omega

set_option maxHeartbeats 400000 in
theorem isInf_walk (b : Nat) (hb : b < 18446744073709551616) (w : World) :
    Calls Try.prog 24 #[.float .f64 b, .int .i64 1] w fun e w' => e = .returned (.bool (decide (b = 9218868437227405312))) ∧ w' = w := by
  rw [← most_gt hb]
  go_enter Try.func24, Try.ntmps24
  go_wp2
  go_ret
  exact ⟨rfl, rfl⟩

/-! ### NaNs -/
theorem nan_false_of {b : Nat} (h : rung b ≤ 9218868437227405312) : nan b = false := (nan_false_iff b).2 h
theorem nan_true_of {b : Nat} (h : 9218868437227405312 < rung b) : nan b = true := (nan_true_iff b).2 h

theorem run_neg {P : Program} {b : Nat} (hb : b < 18446744073709551616) (w : World) : (Op.unary UnOp.neg (.float .f64 b)).run P w = .ok (.float .f64 (flip b)) w := by
  rw [← negFloat_eq hb]; rfl

set_option maxHeartbeats 400000 in
theorem same_walk (b : Nat) (w : World) :
    Calls Try.prog 11 #[.float .f64 b, .float .f64 b] w fun e w' => e = .returned (.bool true) ∧ w' = w := by
  have h11 := run_bits
  go_enter Try.func11, Try.ntmps11
  go_wp2
  go_ret
  exact ⟨rfl, rfl⟩

end Go.Proofs.Ytibpnpigkbodeaa
