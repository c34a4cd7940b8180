/-
  The walks of Nexts: Up and Down of the program and of the reference, over the words' bits.
-/
import Derived.Test.YtkgjcpiipkonmaaRRows
import Derived.Test.YtkgjcpiipkonmaaRFlt
import Derived.WalkKit
import Derived.WalkSpells
import Derived.WalkLawsBesides
import Derived.Laws.Externs
namespace Go.Proofs.YtkgjcpiipkonmaaR
open Go.RowKit Flt

theorem hide {p : Prop} (h : p) : Hid p := h
theorem unhide {p : Prop} (h : Hid p) : p := h.out

theorem run_frombits (n : Int) (w : World) : (callFunc 10 #[.int .u64 n]).run Try.prog w = .ok (.value (.float .f64 n.toNat)) w := by
  rw [run_callFunc_extern (e := Extern.MathFloatBits.float64frombits) (fn := Try.f10) Try.func10 (by kernel_rfl) (by kernel_rfl) (by kernel_rfl) (by kernel_rfl)]
  rfl
theorem run_bits (b : Nat) (w : World) : (callFunc 11 #[.float .f64 b]).run Try.prog w = .ok (.value (.int .u64 b)) w := by
  rw [run_callFunc_extern (e := Extern.MathFloatBits.float64bits) (fn := Try.f11) Try.func11 (by kernel_rfl) (by kernel_rfl) (by kernel_rfl) (by kernel_rfl)]
  rfl

set_option maxHeartbeats 400000 in
theorem of_walk (n : Int) (w : World) :
    Calls Try.prog 4 #[.int .u64 n] w fun e w' => e = .returned (.float .f64 n.toNat) ∧ w' = w := by
  have h1 := run_frombits
  go_enter Try.func4, Try.ntmps4
  go_wp2
  go_ret
  exact ⟨rfl, rfl⟩

/-- The next word above; what stays as it is. -/
def upB (b : Nat) : Nat :=
  if 9218868437227405312 < rung b then b else if b = 9218868437227405312 then b else if rung b = 0 then 1
  else if b < 9223372036854775808 then b + 1 else if b = 9223372036854775809 then 0 else b - 1
def plainB (b : Nat) : Nat := if rung b = 0 then 0 else b
def downB (b : Nat) : Nat := plainB (flip (upB (flip b)))

theorem upB_lt {b : Nat} (hb : b < 18446744073709551616) : upB b < 18446744073709551616 := by
  unfold upB rung; repeat' split
  all_goals omega
theorem plainB_lt {b : Nat} (hb : b < 18446744073709551616) : plainB b < 18446744073709551616 := by
  unfold plainB; split <;> omega

theorem zero_eq {b : Nat} (hb : b < 18446744073709551616) : (FloatKind.f64.format.order b 0 == some .eq) = decide (rung b = 0) := by
  have h := ord_eq (a := b) (b := 0) hb (by decide)
  rw [show FloatKind.f64.format.order b 0 = Ieee.double.order b 0 from rfl, h, Bool.eq_iff_iff]
  simp only [Bool.and_eq_true, Bool.not_eq_true', decide_eq_true_eq, nan_false_iff]
  have h1 := key_spec b
  have h2 := rung_spec b hb
  have h3 : key 0 = 0 := by decide
  have h4 : rung 0 = 0 := by decide
  omega
theorem zero_gt {b : Nat} (hb : b < 18446744073709551616) : (FloatKind.f64.format.order b 0 == some .gt) = decide (0 < b ∧ b ≤ 9218868437227405312) := by
  have h := ord_gt (a := b) (b := 0) hb (by decide)
  rw [show FloatKind.f64.format.order b 0 = Ieee.double.order b 0 from rfl, h, Bool.eq_iff_iff]
  simp only [Bool.and_eq_true, Bool.not_eq_true', decide_eq_true_eq, nan_false_iff]
  have h1 := key_spec b
  have h2 := rung_spec b hb
  have h3 : key 0 = 0 := by decide
  have h4 : rung 0 = 0 := by decide
  omega
theorem self_ne {b : Nat} (hb : b < 18446744073709551616) : (FloatKind.f64.format.order b b != some .eq) = nan b := by
  have h := ord_eq (a := b) (b := b) hb hb
  rw [bne, show FloatKind.f64.format.order b b = Ieee.double.order b b from rfl, h]
  simp
theorem most_gt {b : Nat} (hb : b < 18446744073709551616) : (FloatKind.f64.format.order b 9218868437227405311 == some .gt) = decide (b = 9218868437227405312) := by
  have h := ord_gt (a := b) (b := 9218868437227405311) hb (by decide)
  rw [show FloatKind.f64.format.order b 9218868437227405311 = Ieee.double.order b 9218868437227405311 from rfl, h, Bool.eq_iff_iff]
  simp only [Bool.and_eq_true, Bool.not_eq_true', decide_eq_true_eq, nan_false_iff]
  have h1 := key_spec b
  have h2 := rung_spec b hb
  have h3 : key 9218868437227405311 = 9218868437227405311 := by decide
  have h4 : rung 9218868437227405311 = 9218868437227405311 := by decide
  omega

set_option maxHeartbeats 400000 in
theorem plainZero_walk (b : Nat) (hb : b < 18446744073709551616) (w : World) :
    Calls Try.prog 14 #[.float .f64 b] w fun e w' => e = .returned (.float .f64 (plainB b)) ∧ w' = w := by
  by_cases h : rung b = 0
  · have h' : (FloatKind.f64.format.order b 0 == some .eq) = true := by rw [zero_eq hb]; exact decide_eq_true h
    rw [show plainB b = 0 from if_pos h]
    clear h
    go_enter Try.func14, Try.ntmps14
    go_wp2
    go_ret
    exact ⟨rfl, rfl⟩
  · have h' : (FloatKind.f64.format.order b 0 == some .eq) = false := by rw [zero_eq hb]; exact decide_eq_false h
    rw [show plainB b = b from if_neg h]
    clear h
    go_enter Try.func14, Try.ntmps14
    go_wp2
    go_ret
    exact ⟨rfl, rfl⟩

set_option maxHeartbeats 400000 in
theorem plain_walk (b : Nat) (hb : b < 18446744073709551616) (w : World) :
    Calls Try.prog 15 #[.float .f64 b] w fun e w' => e = .returned (.float .f64 (plainB b)) ∧ w' = w := by
  by_cases h : rung b = 0
  · have h' : (FloatKind.f64.format.order b 0 == some .eq) = true := by rw [zero_eq hb]; exact decide_eq_true h
    rw [show plainB b = 0 from if_pos h]
    clear h
    go_enter Try.func15, Try.ntmps15
    go_wp2
    go_ret
    exact ⟨rfl, rfl⟩
  · have h' : (FloatKind.f64.format.order b 0 == some .eq) = false := by rw [zero_eq hb]; exact decide_eq_false h
    rw [show plainB b = b from if_neg h]
    clear h
    go_enter Try.func15, Try.ntmps15
    go_wp2
    go_ret
    exact ⟨rfl, rfl⟩

set_option maxHeartbeats 400000 in
theorem isNaN_walk (b : Nat) (hb : b < 18446744073709551616) (w : World) :
    Calls Try.prog 12 #[.float .f64 b] w fun e w' => e = .returned (.bool (nan b)) ∧ w' = w := by
  rw [← self_ne hb]
  go_enter Try.func12, Try.ntmps12
  go_wp2
  go_ret
  exact ⟨rfl, rfl⟩

set_option maxHeartbeats 400000 in
theorem isInf_walk (b : Nat) (hb : b < 18446744073709551616) (w : World) :
    Calls Try.prog 13 #[.float .f64 b, .int .i64 1] w fun e w' => e = .returned (.bool (decide (b = 9218868437227405312))) ∧ w' = w := by
  rw [← most_gt hb]
  go_enter Try.func13, Try.ntmps13
  go_wp2
  go_ret
  exact ⟨rfl, rfl⟩

/-! ### Up: a case a way -/
theorem nan_false_of {b : Nat} (h : rung b ≤ 9218868437227405312) : nan b = false := (nan_false_iff b).2 h
theorem nan_true_of {b : Nat} (h : 9218868437227405312 < rung b) : nan b = true := (nan_true_iff b).2 h

set_option maxHeartbeats 400000 in
theorem up_walk (b : Nat) (hb : b < 18446744073709551616) (w : World) :
    Calls Try.prog 5 #[.float .f64 b] w fun e w' => e = .returned (.float .f64 (upB b)) ∧ w' = w := by
  have h11 := run_bits
  have h10 := run_frombits
  unfold upB
  by_cases c1 : 9218868437227405312 < rung b
  · rw [if_pos c1]
    have hn := nan_true_of c1
    clear c1
    go_enter Try.func5, Try.ntmps5
    go_wp2_with (first | (go_at_call 12; refine (isNaN_walk b hb _).mono ?_; rintro e w' ⟨rfl, rfl⟩; rw [hn]))
    go_ret
    exact ⟨rfl, rfl⟩
  · rw [if_neg c1]
    have hn := nan_false_of (b := b) (by omega)
    by_cases c2 : b = 9218868437227405312
    · rw [if_pos c2]
      have hi : decide (b = 9218868437227405312) = true := decide_eq_true c2
      have Hi := hide hi
      clear c1 c2 hi
      go_enter Try.func5, Try.ntmps5
      go_wp2_with (first | (go_at_call 12; refine (isNaN_walk b hb _).mono ?_; rintro e w' ⟨rfl, rfl⟩; rw [hn]) | (go_at_call 13; refine (isInf_walk b hb _).mono ?_; rintro e w' ⟨rfl, rfl⟩; rw [unhide Hi]))
      go_ret
      exact ⟨rfl, rfl⟩
    · rw [if_neg c2]
      have hi : decide (b = 9218868437227405312) = false := decide_eq_false c2
      have Hi := hide hi
      clear hi
      by_cases c3 : rung b = 0
      · rw [if_pos c3]
        have hz : (FloatKind.f64.format.order b 0 == some .eq) = true := by rw [zero_eq hb]; exact decide_eq_true c3
        clear c1 c2 c3
        go_enter Try.func5, Try.ntmps5
        go_wp2_with (first | (go_at_call 12; refine (isNaN_walk b hb _).mono ?_; rintro e w' ⟨rfl, rfl⟩; rw [hn]) | (go_at_call 13; refine (isInf_walk b hb _).mono ?_; rintro e w' ⟨rfl, rfl⟩; rw [unhide Hi]))
        go_ret
        exact ⟨rfl, rfl⟩
      · rw [if_neg c3]
        have hz : (FloatKind.f64.format.order b 0 == some .eq) = false := by rw [zero_eq hb]; exact decide_eq_false c3
        have hr := rung_spec b hb
        by_cases c4 : b < 9223372036854775808
        · rw [if_pos c4]
          have hg : (FloatKind.f64.format.order b 0 == some .gt) = true := by rw [zero_gt hb]; exact decide_eq_true (by omega)
          have hb1 : b + 1 < 18446744073709551616 := by omega
          have hp : plainB (b + 1) = b + 1 := by unfold plainB; rw [if_neg]; have := rung_spec (b + 1) hb1; omega
          have Hp := hide hp
          clear c1 c2 c3 hr hp
          go_enter Try.func5, Try.ntmps5
          go_wp2_with (first | (go_at_call 12; refine (isNaN_walk b hb _).mono ?_; rintro e w' ⟨rfl, rfl⟩; rw [hn]) | (go_at_call 13; refine (isInf_walk b hb _).mono ?_; rintro e w' ⟨rfl, rfl⟩; rw [unhide Hi]))
          refine (plainZero_walk (b + 1) hb1 _).mono ?_
          rintro e w'' ⟨rfl, rfl⟩
          rw [unhide Hp]
          go_wp2
          go_ret
          exact ⟨rfl, rfl⟩
        · rw [if_neg c4]
          have hg : (FloatKind.f64.format.order b 0 == some .gt) = false := by rw [zero_gt hb]; exact decide_eq_false (by omega)
          have hb0 : 9223372036854775808 < b := by omega
          have hb1 : b - 1 < 18446744073709551616 := by omega
          have hp : plainB (b - 1) = if b = 9223372036854775809 then 0 else b - 1 := by
            unfold plainB
            have := rung_spec (b - 1) hb1
            by_cases c5 : b = 9223372036854775809
            · rw [if_pos c5, if_pos (by omega)]
            · rw [if_neg c5, if_neg (by omega)]
          have Hp := hide hp
          clear c1 c2 c3 hr hp c4
          go_enter Try.func5, Try.ntmps5
          go_wp2_with (first | (go_at_call 12; refine (isNaN_walk b hb _).mono ?_; rintro e w' ⟨rfl, rfl⟩; rw [hn]) | (go_at_call 13; refine (isInf_walk b hb _).mono ?_; rintro e w' ⟨rfl, rfl⟩; rw [unhide Hi]))
          refine (plainZero_walk (b - 1) hb1 _).mono ?_
          rintro e w'' ⟨rfl, rfl⟩
          rw [unhide Hp]
          go_wp2
          all_goals (go_ret; exact ⟨rfl, rfl⟩)

theorem run_neg {P : Program} {b : Nat} (hb : b < 18446744073709551616) (w : World) : (Op.unary UnOp.neg (.float .f64 b)).run P w = .ok (.float .f64 (flip b)) w := by
  rw [← negFloat_eq hb]; rfl

set_option maxHeartbeats 400000 in
theorem down_walk (b : Nat) (hb : b < 18446744073709551616) (w : World) :
    Calls Try.prog 6 #[.float .f64 b] w fun e w' => e = .returned (.float .f64 (downB b)) ∧ w' = w := by
  have h1 := run_neg (P := Try.prog) hb
  have h2 := run_neg (P := Try.prog) (upB_lt (flip_lt hb))
  have H1 := hide (upB_lt (flip_lt hb))
  unfold downB
  go_enter Try.func6, Try.ntmps6
  go_wp2_with (first | (go_at_call 5; refine (up_walk (flip b) (flip_lt hb) _).mono ?_; rintro e w' ⟨rfl, rfl⟩) | (go_at_call 14; refine (plainZero_walk (flip (upB (flip b))) (flip_lt (unhide H1)) _).mono ?_; rintro e w' ⟨rfl, rfl⟩))
  go_ret
  exact ⟨rfl, rfl⟩

/-! ### The reference -/
set_option maxHeartbeats 400000 in
theorem refUp_walk (b : Nat) (hb : b < 18446744073709551616) (w : World) :
    Calls Try.prog 7 #[.float .f64 b] w fun e w' => e = .returned (.float .f64 (upB b)) ∧ w' = w := by
  have h11 := run_bits
  have h10 := run_frombits
  unfold upB
  by_cases c1 : 9218868437227405312 < rung b
  · rw [if_pos c1]
    have hn : (FloatKind.f64.format.order b b != some .eq) = true := by rw [self_ne hb]; exact nan_true_of c1
    clear c1
    go_enter Try.func7, Try.ntmps7
    go_wp2_with (first | (go_at_call 13; refine (isInf_walk b hb _).mono ?_; rintro e w' ⟨rfl, rfl⟩))
    all_goals (go_ret; exact ⟨rfl, rfl⟩)
  · rw [if_neg c1]
    have hn : (FloatKind.f64.format.order b b != some .eq) = false := by rw [self_ne hb]; exact nan_false_of (b := b) (by omega)
    by_cases c2 : b = 9218868437227405312
    · rw [if_pos c2]
      have hi : decide (b = 9218868437227405312) = true := decide_eq_true c2
      have Hi := hide hi
      clear c1 c2 hi
      go_enter Try.func7, Try.ntmps7
      go_wp2_with (first | (go_at_call 13; refine (isInf_walk b hb _).mono ?_; rintro e w' ⟨rfl, rfl⟩; rw [unhide Hi]))
      go_ret
      exact ⟨rfl, rfl⟩
    · rw [if_neg c2]
      have hi : decide (b = 9218868437227405312) = false := decide_eq_false c2
      have Hi := hide hi
      clear hi
      by_cases c3 : rung b = 0
      · rw [if_pos c3]
        have hz : (FloatKind.f64.format.order b 0 == some .eq) = true := by rw [zero_eq hb]; exact decide_eq_true c3
        clear c1 c2 c3
        go_enter Try.func7, Try.ntmps7
        go_wp2_with (first | (go_at_call 13; refine (isInf_walk b hb _).mono ?_; rintro e w' ⟨rfl, rfl⟩; rw [unhide Hi]) | (go_at_call 15; refine (plain_walk 1 (by decide) _).mono ?_; rintro e w' ⟨rfl, rfl⟩; rw [show plainB 1 = 1 from by decide]))
        go_ret
        exact ⟨rfl, rfl⟩
      · rw [if_neg c3]
        have hz : (FloatKind.f64.format.order b 0 == some .eq) = false := by rw [zero_eq hb]; exact decide_eq_false c3
        have hr := rung_spec b hb
        by_cases c4 : b < 9223372036854775808
        · rw [if_pos c4]
          have hs : ((b : Int) / 9223372036854775808 == 1) = false := by rw [beq_eq_false_iff_ne]; omega
          have hb1 : b + 1 < 18446744073709551616 := by omega
          have hp : plainB (b + 1) = b + 1 := by unfold plainB; rw [if_neg]; have := rung_spec (b + 1) hb1; omega
          have Hp := hide hp
          clear c1 c2 c3 hr hp
          go_enter Try.func7, Try.ntmps7
          go_wp2_with (first | (go_at_call 13; refine (isInf_walk b hb _).mono ?_; rintro e w' ⟨rfl, rfl⟩; rw [unhide Hi]) | (go_at_call 15; refine (plain_walk (b + 1) hb1 _).mono ?_; rintro e w' ⟨rfl, rfl⟩; rw [unhide Hp]))
          go_ret
          exact ⟨rfl, rfl⟩
        · rw [if_neg c4]
          have hb0 : 9223372036854775808 < b := by omega
          have hs : ((b : Int) / 9223372036854775808 == 1) = true := by rw [beq_iff_eq]; omega
          have hb1 : b - 1 < 18446744073709551616 := by omega
          have hp : plainB (b - 1) = if b = 9223372036854775809 then 0 else b - 1 := by
            unfold plainB
            have := rung_spec (b - 1) hb1
            by_cases c5 : b = 9223372036854775809
            · rw [if_pos c5, if_pos (by omega)]
            · rw [if_neg c5, if_neg (by omega)]
          have Hp := hide hp
          clear c1 c2 c3 hr hp c4
          go_enter Try.func7, Try.ntmps7
          go_wp2_with (first | (go_at_call 13; refine (isInf_walk b hb _).mono ?_; rintro e w' ⟨rfl, rfl⟩; rw [unhide Hi]) | (go_at_call 15; refine (plain_walk (b - 1) hb1 _).mono ?_; rintro e w' ⟨rfl, rfl⟩; rw [unhide Hp]))
          all_goals (go_ret; exact ⟨rfl, rfl⟩)

set_option maxHeartbeats 400000 in
theorem refDown_walk (b : Nat) (hb : b < 18446744073709551616) (w : World) :
    Calls Try.prog 8 #[.float .f64 b] w fun e w' => e = .returned (.float .f64 (downB b)) ∧ w' = w := by
  have h1 := run_neg (P := Try.prog) hb
  have h2 := run_neg (P := Try.prog) (upB_lt (flip_lt hb))
  have H1 := hide (upB_lt (flip_lt hb))
  unfold downB
  go_enter Try.func8, Try.ntmps8
  go_wp2_with (first | (go_at_call 7; refine (refUp_walk (flip b) (flip_lt hb) _).mono ?_; rintro e w' ⟨rfl, rfl⟩) | (go_at_call 15; refine (plain_walk (flip (upB (flip b))) (flip_lt (unhide H1)) _).mono ?_; rintro e w' ⟨rfl, rfl⟩))
  go_ret
  exact ⟨rfl, rfl⟩

set_option maxHeartbeats 400000 in
theorem same_walk (b : Nat) (w : World) :
    Calls Try.prog 9 #[.float .f64 b, .float .f64 b] w fun e w' => e = .returned (.bool true) ∧ w' = w := by
  have h11 := run_bits
  go_enter Try.func9, Try.ntmps9
  go_wp2
  go_ret
  exact ⟨rfl, rfl⟩

end Go.Proofs.YtkgjcpiipkonmaaR
