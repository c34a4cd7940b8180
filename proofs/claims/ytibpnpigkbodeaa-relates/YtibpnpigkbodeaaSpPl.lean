/-
  The program's plainZero; math.IsNaN.
-/
import Derived.Test.YtibpnpigkbodeaaBits
import Derived.WalkKit
import Derived.WalkSpells
import Derived.WalkLawsBesides
import Derived.Laws.Externs
namespace Go.Proofs.Ytibpnpigkbodeaa
open Go.RowKit Flt

set_option maxHeartbeats 400000 in
theorem plainZero_walk (b : Nat) (hb : b < 18446744073709551616) (w : World) :
    Calls Try.prog 25 #[.float .f64 b] w fun e w' => e = .returned (.float .f64 (plainB b)) ∧ w' = w := by
  by_cases h : rung b = 0
  · have h' : (FloatKind.f64.format.order b 0 == some .eq) = true := by rw [zero_eq hb]; exact decide_eq_true h
    rw [show plainB b = 0 from if_pos h]
    clear h
    go_enter Try.func25, Try.ntmps25
    go_wp2
    go_ret
    exact ⟨rfl, rfl⟩
  · have h' : (FloatKind.f64.format.order b 0 == some .eq) = false := by rw [zero_eq hb]; exact decide_eq_false h
    rw [show plainB b = b from if_neg h]
    clear h
    go_enter Try.func25, Try.ntmps25
    go_wp2
    go_ret
    exact ⟨rfl, rfl⟩

set_option maxHeartbeats 400000 in
theorem isNaN_walk (b : Nat) (hb : b < 18446744073709551616) (w : World) :
    Calls Try.prog 23 #[.float .f64 b] w fun e w' => e = .returned (.bool (nan b)) ∧ w' = w := by
  rw [← self_ne hb]
  go_enter Try.func23, Try.ntmps23
  go_wp2
  go_ret
  exact ⟨rfl, rfl⟩

end Go.Proofs.Ytibpnpigkbodeaa
