/-
  The reference's Up, Down and Plain.
-/
import Derived.Test.YtibpnpigkbodeaaBits
import Derived.WalkKit
import Derived.WalkSpells
import Derived.WalkLawsBesides
import Derived.Laws.Externs
namespace Go.Proofs.Ytibpnpigkbodeaa
open Go.RowKit Flt

set_option maxHeartbeats 400000 in
theorem plain_walk (b : Nat) (hb : b < 18446744073709551616) (w : World) :
    Calls Try.prog 26 #[.float .f64 b] w fun e w' => e = .returned (.float .f64 (plainB b)) ∧ w' = w := by
  by_cases h : rung b = 0
  · have h' : (FloatKind.f64.format.order b 0 == some .eq) = true := by rw [zero_eq hb]; exact decide_eq_true h
    rw [show plainB b = 0 from if_pos h]
    clear h
    go_enter Try.func26, Try.ntmps26
    go_wp2
    go_ret
    exact ⟨rfl, rfl⟩
  · have h' : (FloatKind.f64.format.order b 0 == some .eq) = false := by rw [zero_eq hb]; exact decide_eq_false h
    rw [show plainB b = b from if_neg h]
    clear h
    go_enter Try.func26, Try.ntmps26
    go_wp2
    go_ret
    exact ⟨rfl, rfl⟩

/-! ### The reference -/
set_option maxHeartbeats 400000 in
theorem refUp_walk (b : Nat) (hb : b < 18446744073709551616) (w : World) :
    Calls Try.prog 9 #[.float .f64 b] w fun e w' => e = .returned (.float .f64 (upB b)) ∧ w' = w := by
  have h11 := run_bits
  have h10 := run_frombits
  unfold upB
  by_cases c1 : 9218868437227405312 < rung b
  · rw [if_pos c1]
    have hn : (FloatKind.f64.format.order b b != some .eq) = true := by rw [self_ne hb]; exact nan_true_of c1
    clear c1
    go_enter Try.func9, Try.ntmps9
    go_wp2_with (first | (go_at_call 24; refine (isInf_walk b hb _).mono ?_; rintro e w' ⟨rfl, rfl⟩))
    all_goals (go_ret; exact ⟨rfl, rfl⟩)
  · rw [if_neg c1]
    have hn : (FloatKind.f64.format.order b b != some .eq) = false := by rw [self_ne hb]; exact nan_false_of (b := b) (by omega)
    by_cases c2 : b = 9218868437227405312
    · rw [if_pos c2]
      have hi : decide (b = 9218868437227405312) = true := decide_eq_true c2
      have Hi := hide hi
      clear c1 c2 hi
      go_enter Try.func9, Try.ntmps9
      go_wp2_with (first | (go_at_call 24; refine (isInf_walk b hb _).mono ?_; rintro e w' ⟨rfl, rfl⟩; rw [unhide Hi]))
      go_ret
      exact ⟨rfl, rfl⟩
    · rw [if_neg c2]
      have hi : decide (b = 9218868437227405312) = false := decide_eq_false c2
      have Hi := hide hi
      clear hi
      by_cases c3 : rung b = 0
      · rw [if_pos c3]
        have hz : (FloatKind.f64.format.order b 0 == some .eq) = true := by rw [zero_eq hb]; exact decide_eq_true c3
        clear c1 c2 c3
        go_enter Try.func9, Try.ntmps9
        go_wp2_with (first | (go_at_call 24; refine (isInf_walk b hb _).mono ?_; rintro e w' ⟨rfl, rfl⟩; rw [unhide Hi]) | (go_at_call 26; refine (plain_walk 1 (by decide) _).mono ?_; rintro e w' ⟨rfl, rfl⟩; rw [show plainB 1 = 1 from by decide]))
        go_ret
        exact ⟨rfl, rfl⟩
      · rw [if_neg c3]
        have hz : (FloatKind.f64.format.order b 0 == some .eq) = false := by rw [zero_eq hb]; exact decide_eq_false c3
        have hr := rung_spec b hb
        by_cases c4 : b < 9223372036854775808
        · rw [if_pos c4]
          have hs : ((b : Int) / 9223372036854775808 == 1) = false := by rw [beq_eq_false_iff_ne]; omega
          have hb1 : b + 1 < 18446744073709551616 := by omega
          have hp : plainB (b + 1) = b + 1 := by unfold plainB; rw [if_neg]; have := rung_spec (b + 1) hb1; omega
          have Hp := hide hp
          clear c1 c2 c3 hr hp
          go_enter Try.func9, Try.ntmps9
          go_wp2_with (first | (go_at_call 24; refine (isInf_walk b hb _).mono ?_; rintro e w' ⟨rfl, rfl⟩; rw [unhide Hi]) | (go_at_call 26; refine (plain_walk (b + 1) hb1 _).mono ?_; rintro e w' ⟨rfl, rfl⟩; rw [unhide Hp]))
          go_ret
          exact ⟨rfl, rfl⟩
        · rw [if_neg c4]
          have hb0 : 9223372036854775808 < b := by omega
          have hs : ((b : Int) / 9223372036854775808 == 1) = true := by rw [beq_iff_eq]; omega
          have hb1 : b - 1 < 18446744073709551616 := by omega
          have hp : plainB (b - 1) = if b = 9223372036854775809 then 0 else b - 1 := by
            unfold plainB
            have := rung_spec (b - 1) hb1
            by_cases c5 : b = 9223372036854775809
            · rw [if_pos c5, if_pos (by omega)]
            · rw [if_neg c5, if_neg (by omega)]
          have Hp := hide hp
          clear c1 c2 c3 hr hp c4
          go_enter Try.func9, Try.ntmps9
          go_wp2_with (first | (go_at_call 24; refine (isInf_walk b hb _).mono ?_; rintro e w' ⟨rfl, rfl⟩; rw [unhide Hi]) | (go_at_call 26; refine (plain_walk (b - 1) hb1 _).mono ?_; rintro e w' ⟨rfl, rfl⟩; rw [unhide Hp]))
          all_goals (go_ret; exact ⟨rfl, rfl⟩)

set_option maxHeartbeats 400000 in
theorem refDown_walk (b : Nat) (hb : b < 18446744073709551616) (w : World) :
    Calls Try.prog 10 #[.float .f64 b] w fun e w' => e = .returned (.float .f64 (downB b)) ∧ w' = w := by
  have h1 := run_neg (P := Try.prog) hb
  have h2 := run_neg (P := Try.prog) (upB_lt (flip_lt hb))
  have H1 := hide (upB_lt (flip_lt hb))
  unfold downB
  go_enter Try.func10, Try.ntmps10
  go_wp2_with (first | (go_at_call 9; refine (refUp_walk (flip b) (flip_lt hb) _).mono ?_; rintro e w' ⟨rfl, rfl⟩) | (go_at_call 26; refine (plain_walk (flip (upB (flip b))) (flip_lt (unhide H1)) _).mono ?_; rintro e w' ⟨rfl, rfl⟩))
  go_ret
  exact ⟨rfl, rfl⟩

end Go.Proofs.Ytibpnpigkbodeaa
