/-
  The reference's New. (Written by tools/genrefnew.py.)
-/
import Derived.Test.YtibpnpigkbodeaaRefIv
namespace Go.Proofs.Ytibpnpigkbodeaa
open Go.RowKit Flt

theorem good_no {lo hi : Nat} (hl : lo < 18446744073709551616) (hh : hi < 18446744073709551616) : (goodB lo hi && !ltB hi lo) = hasB lo hi := by
  cases h : hasB lo hi
  · unfold goodB
    rw [h]
    cases h1 : eqB lo infW
    · simp
    · cases h2 : eqB hi ninfW
      · simp
      · rw [eqB_inf hl h1, eqB_ninf hh h2]; decide
  · unfold goodB
    rw [h]
    have h2 := has_spec.1 h
    unfold ltB
    rw [decide_eq_false (by omega)]; simp

set_option maxHeartbeats 1000000 in
theorem refNew_walk (lo hi : Nat) (hl : lo < 18446744073709551616) (hh : hi < 18446744073709551616) (w : World) :
    Calls Try.prog 13 #[.float .f64 lo, .float .f64 hi] w fun e w' => e = .returned (.tuple #[iv (loB lo hi) (hiB lo hi), .bool (hasB lo hi)]) ∧ Below w.heap.size w w' := by
  have hst := run_store_float
  have hG := hide (fun w => good_walk lo hi hl hh w)
  have hN := hide (fun w => no_walk lo hi hl hh w)
  have hT := hide (fun w => taken_walk lo hi hl hh w)
  rw [← good_no hl hh]
  clear hl hh
  generalize loB lo hi = sl at *
  generalize hiB lo hi = sh at *
  generalize goodB lo hi = g at *
  generalize ltB hi lo = n at *
  unfold iv at *
  cases g
  · go_enter Try.func13, Try.ntmps13
    go_wp2_with (first | (go_at_call 29; refine ((unhide hG) _).mono ?_; rintro e w1 ⟨rfl, hbw1⟩; obtain ⟨w1c00, w1z00, w1c01, w1z01⟩ := bN hbw1 (w.heap.size) (by simp <;> omega); obtain ⟨w1c10, w1z10, w1c11, w1z11⟩ := bN hbw1 (w.heap.size + 1) (by simp <;> omega); simp [go_sem] at w1c00 w1z00 w1c01 w1z01 w1c10 w1z10 w1c11 w1z11; have Sw1 := hbw1.size; (try simp at Sw1); have Hw1 := hide (chainB (twoB w _ _) hbw1); clear hbw1) | (go_at_call 30; refine ((unhide hN) _).mono ?_; rintro e w2 ⟨rfl, hbw2⟩; obtain ⟨w2c00, w2z00, w2c01, w2z01⟩ := bO (Below.refl _ _) hbw2 (by omega) w1c00 w1z00 w1c01 w1z01; obtain ⟨w2c10, w2z10, w2c11, w2z11⟩ := bO (Below.refl _ _) hbw2 (by omega) w1c10 w1z10 w1c11 w1z11; have Sw2 := hbw2.size; (try simp at Sw2); have Hw2 := hide (chainB (chainB (unhide Hw1) (Below.refl _ _)) hbw2); clear hbw2) | (go_at_call 31; refine ((unhide hT) _).mono ?_; rintro e w3 ⟨rfl, hbw3⟩; obtain ⟨w3c00, w3z00, w3c01, w3z01⟩ := bO (Below.refl _ _) hbw3 (by omega) w2c00 w2z00 w2c01 w2z01; obtain ⟨w3c10, w3z10, w3c11, w3z11⟩ := bO (Below.refl _ _) hbw3 (by omega) w2c10 w2z10 w2c11 w2z11; have Sw3 := hbw3.size; (try simp at Sw3); have Hw3 := hide (chainB (chainB (unhide Hw2) (Below.refl _ _)) hbw3); clear hbw3))
    all_goals (refine bodyPost_ret (v := .tuple #[.agg #[.float .f64 sl, .float .f64 sh], .bool false]) (by simp [results, Try.results13, go_sem, w3c00, w3c01]) rfl ⟨rfl, set2B (unhide Hw3) (by omega) _ _⟩)
  · go_enter Try.func13, Try.ntmps13
    go_wp2_with (first | (go_at_call 29; refine ((unhide hG) _).mono ?_; rintro e w1 ⟨rfl, hbw1⟩; obtain ⟨w1c00, w1z00, w1c01, w1z01⟩ := bN hbw1 (w.heap.size) (by simp <;> omega); obtain ⟨w1c10, w1z10, w1c11, w1z11⟩ := bN hbw1 (w.heap.size + 1) (by simp <;> omega); simp [go_sem] at w1c00 w1z00 w1c01 w1z01 w1c10 w1z10 w1c11 w1z11; have Sw1 := hbw1.size; (try simp at Sw1); have Hw1 := hide (chainB (twoB w _ _) hbw1); clear hbw1) | (go_at_call 30; refine ((unhide hN) _).mono ?_; rintro e w2 ⟨rfl, hbw2⟩; obtain ⟨w2c00, w2z00, w2c01, w2z01⟩ := bO (Below.refl _ _) hbw2 (by omega) w1c00 w1z00 w1c01 w1z01; obtain ⟨w2c10, w2z10, w2c11, w2z11⟩ := bO (Below.refl _ _) hbw2 (by omega) w1c10 w1z10 w1c11 w1z11; have Sw2 := hbw2.size; (try simp at Sw2); have Hw2 := hide (chainB (chainB (unhide Hw1) (Below.refl _ _)) hbw2); clear hbw2) | (go_at_call 31; refine ((unhide hT) _).mono ?_; rintro e w3 ⟨rfl, hbw3⟩; obtain ⟨w3c00, w3z00, w3c01, w3z01⟩ := bO (Below.refl _ _) hbw3 (by omega) w2c00 w2z00 w2c01 w2z01; obtain ⟨w3c10, w3z10, w3c11, w3z11⟩ := bO (Below.refl _ _) hbw3 (by omega) w2c10 w2z10 w2c11 w2z11; have Sw3 := hbw3.size; (try simp at Sw3); have Hw3 := hide (chainB (chainB (unhide Hw2) (Below.refl _ _)) hbw3); clear hbw3))
    all_goals (refine bodyPost_ret (v := .tuple #[.agg #[.float .f64 sl, .float .f64 sh], .bool (!n)]) (by simp [results, Try.results13, go_sem, w3c00, w3c01]) rfl ⟨rfl, set2B (unhide Hw3) (by omega) _ _⟩)

end Go.Proofs.Ytibpnpigkbodeaa
