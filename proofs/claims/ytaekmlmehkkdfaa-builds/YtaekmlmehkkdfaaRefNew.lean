/-
  The reference's New. (Written by tools/genrefnew.py.)
-/
import Derived.Test.YtaekmlmehkkdfaaRefIv
namespace Go.Proofs.Ytaekmlmehkkdfaa
open Go.RowKit Flt

theorem good_no {lo hi : Nat} (hl : lo < 18446744073709551616) (hh : hi < 18446744073709551616) : (goodB lo hi && !ltB hi lo) = hasB lo hi := by
  cases h : hasB lo hi
  · unfold goodB
    rw [h]
    cases h1 : eqB lo infW
    · simp
    · cases h2 : eqB hi ninfW
      · simp
      · rw [eqB_inf hl h1, eqB_ninf hh h2]; decide
  · unfold goodB
    rw [h]
    have h2 := has_spec.1 h
    unfold ltB
    rw [decide_eq_false (by omega)]; simp

set_option maxHeartbeats 1000000 in
theorem refNew_walk (lo hi : Nat) (hl : lo < 18446744073709551616) (hh : hi < 18446744073709551616) (w : World) :
    Calls Try.prog 13 #[.float .f64 lo, .float .f64 hi] w fun e w' => e = .returned (.tuple #[iv (loB lo hi) (hiB lo hi), .bool (hasB lo hi)]) ∧ Below w.heap.size w w' := by
  have hst := run_store_float
  have hG := hide (fun w => good_walk lo hi hl hh w)
  have hN := hide (fun w => no_walk lo hi hl hh w)
  have hT := hide (fun w => taken_walk lo hi hl hh w)
  rw [← good_no hl hh]
  clear hl hh
  generalize loB lo hi = sl at *
  generalize hiB lo hi = sh at *
  generalize goodB lo hi = g at *
  generalize ltB hi lo = n at *
  unfold iv at *
  cases g
  · go_enter Try.func13, Try.ntmps13
    go_wp2_with (first | (go_at_call 29; refine ((unhide hG) _).mono ?_; rintro e w1 ⟨rfl, hbw1⟩; have w1c00 := hbw1.cell (p := ⟨w.heap.size, 0, none⟩) (by simp <;> omega); have w1z00 := hbw1.frozen (p := ⟨w.heap.size, 0, none⟩) (by simp <;> omega); have w1c01 := hbw1.cell (p := ⟨w.heap.size, 1, none⟩) (by simp <;> omega); have w1z01 := hbw1.frozen (p := ⟨w.heap.size, 1, none⟩) (by simp <;> omega); have w1c10 := hbw1.cell (p := ⟨w.heap.size + 1, 0, none⟩) (by simp <;> omega); have w1z10 := hbw1.frozen (p := ⟨w.heap.size + 1, 0, none⟩) (by simp <;> omega); have w1c11 := hbw1.cell (p := ⟨w.heap.size + 1, 1, none⟩) (by simp <;> omega); have w1z11 := hbw1.frozen (p := ⟨w.heap.size + 1, 1, none⟩) (by simp <;> omega); simp [go_sem] at w1c00 w1z00 w1c01 w1z01 w1c10 w1z10 w1c11 w1z11; have Sw1 := hbw1.size; (try simp at Sw1); have Hw1 := hide (chainB (twoB w _ _) hbw1); clear hbw1) | (go_at_call 30; refine ((unhide hN) _).mono ?_; rintro e w2 ⟨rfl, hbw2⟩; have w2c00 := old_cell (p := ⟨w.heap.size, 0, none⟩) (Below.refl _ _) hbw2 (by simp <;> omega) w1c00; have w2z00 := old_frozen (p := ⟨w.heap.size, 0, none⟩) (Below.refl _ _) hbw2 (by simp <;> omega) w1z00; have w2c01 := old_cell (p := ⟨w.heap.size, 1, none⟩) (Below.refl _ _) hbw2 (by simp <;> omega) w1c01; have w2z01 := old_frozen (p := ⟨w.heap.size, 1, none⟩) (Below.refl _ _) hbw2 (by simp <;> omega) w1z01; have w2c10 := old_cell (p := ⟨w.heap.size + 1, 0, none⟩) (Below.refl _ _) hbw2 (by simp <;> omega) w1c10; have w2z10 := old_frozen (p := ⟨w.heap.size + 1, 0, none⟩) (Below.refl _ _) hbw2 (by simp <;> omega) w1z10; have w2c11 := old_cell (p := ⟨w.heap.size + 1, 1, none⟩) (Below.refl _ _) hbw2 (by simp <;> omega) w1c11; have w2z11 := old_frozen (p := ⟨w.heap.size + 1, 1, none⟩) (Below.refl _ _) hbw2 (by simp <;> omega) w1z11; have Sw2 := hbw2.size; (try simp at Sw2); have Hw2 := hide (chainB (chainB (unhide Hw1) (Below.refl _ _)) hbw2); clear hbw2) | (go_at_call 31; refine ((unhide hT) _).mono ?_; rintro e w3 ⟨rfl, hbw3⟩; have w3c00 := old_cell (p := ⟨w.heap.size, 0, none⟩) (Below.refl _ _) hbw3 (by simp <;> omega) w2c00; have w3z00 := old_frozen (p := ⟨w.heap.size, 0, none⟩) (Below.refl _ _) hbw3 (by simp <;> omega) w2z00; have w3c01 := old_cell (p := ⟨w.heap.size, 1, none⟩) (Below.refl _ _) hbw3 (by simp <;> omega) w2c01; have w3z01 := old_frozen (p := ⟨w.heap.size, 1, none⟩) (Below.refl _ _) hbw3 (by simp <;> omega) w2z01; have w3c10 := old_cell (p := ⟨w.heap.size + 1, 0, none⟩) (Below.refl _ _) hbw3 (by simp <;> omega) w2c10; have w3z10 := old_frozen (p := ⟨w.heap.size + 1, 0, none⟩) (Below.refl _ _) hbw3 (by simp <;> omega) w2z10; have w3c11 := old_cell (p := ⟨w.heap.size + 1, 1, none⟩) (Below.refl _ _) hbw3 (by simp <;> omega) w2c11; have w3z11 := old_frozen (p := ⟨w.heap.size + 1, 1, none⟩) (Below.refl _ _) hbw3 (by simp <;> omega) w2z11; have Sw3 := hbw3.size; (try simp at Sw3); have Hw3 := hide (chainB (chainB (unhide Hw2) (Below.refl _ _)) hbw3); clear hbw3))
    all_goals (refine bodyPost_ret (v := .tuple #[.agg #[.float .f64 sl, .float .f64 sh], .bool false]) (by simp [results, Try.results13, go_sem, w3c00, w3c01]) rfl ⟨rfl, set2B (unhide Hw3) (by omega) _ _⟩)
  · go_enter Try.func13, Try.ntmps13
    go_wp2_with (first | (go_at_call 29; refine ((unhide hG) _).mono ?_; rintro e w1 ⟨rfl, hbw1⟩; have w1c00 := hbw1.cell (p := ⟨w.heap.size, 0, none⟩) (by simp <;> omega); have w1z00 := hbw1.frozen (p := ⟨w.heap.size, 0, none⟩) (by simp <;> omega); have w1c01 := hbw1.cell (p := ⟨w.heap.size, 1, none⟩) (by simp <;> omega); have w1z01 := hbw1.frozen (p := ⟨w.heap.size, 1, none⟩) (by simp <;> omega); have w1c10 := hbw1.cell (p := ⟨w.heap.size + 1, 0, none⟩) (by simp <;> omega); have w1z10 := hbw1.frozen (p := ⟨w.heap.size + 1, 0, none⟩) (by simp <;> omega); have w1c11 := hbw1.cell (p := ⟨w.heap.size + 1, 1, none⟩) (by simp <;> omega); have w1z11 := hbw1.frozen (p := ⟨w.heap.size + 1, 1, none⟩) (by simp <;> omega); simp [go_sem] at w1c00 w1z00 w1c01 w1z01 w1c10 w1z10 w1c11 w1z11; have Sw1 := hbw1.size; (try simp at Sw1); have Hw1 := hide (chainB (twoB w _ _) hbw1); clear hbw1) | (go_at_call 30; refine ((unhide hN) _).mono ?_; rintro e w2 ⟨rfl, hbw2⟩; have w2c00 := old_cell (p := ⟨w.heap.size, 0, none⟩) (Below.refl _ _) hbw2 (by simp <;> omega) w1c00; have w2z00 := old_frozen (p := ⟨w.heap.size, 0, none⟩) (Below.refl _ _) hbw2 (by simp <;> omega) w1z00; have w2c01 := old_cell (p := ⟨w.heap.size, 1, none⟩) (Below.refl _ _) hbw2 (by simp <;> omega) w1c01; have w2z01 := old_frozen (p := ⟨w.heap.size, 1, none⟩) (Below.refl _ _) hbw2 (by simp <;> omega) w1z01; have w2c10 := old_cell (p := ⟨w.heap.size + 1, 0, none⟩) (Below.refl _ _) hbw2 (by simp <;> omega) w1c10; have w2z10 := old_frozen (p := ⟨w.heap.size + 1, 0, none⟩) (Below.refl _ _) hbw2 (by simp <;> omega) w1z10; have w2c11 := old_cell (p := ⟨w.heap.size + 1, 1, none⟩) (Below.refl _ _) hbw2 (by simp <;> omega) w1c11; have w2z11 := old_frozen (p := ⟨w.heap.size + 1, 1, none⟩) (Below.refl _ _) hbw2 (by simp <;> omega) w1z11; have Sw2 := hbw2.size; (try simp at Sw2); have Hw2 := hide (chainB (chainB (unhide Hw1) (Below.refl _ _)) hbw2); clear hbw2) | (go_at_call 31; refine ((unhide hT) _).mono ?_; rintro e w3 ⟨rfl, hbw3⟩; have w3c00 := old_cell (p := ⟨w.heap.size, 0, none⟩) (Below.refl _ _) hbw3 (by simp <;> omega) w2c00; have w3z00 := old_frozen (p := ⟨w.heap.size, 0, none⟩) (Below.refl _ _) hbw3 (by simp <;> omega) w2z00; have w3c01 := old_cell (p := ⟨w.heap.size, 1, none⟩) (Below.refl _ _) hbw3 (by simp <;> omega) w2c01; have w3z01 := old_frozen (p := ⟨w.heap.size, 1, none⟩) (Below.refl _ _) hbw3 (by simp <;> omega) w2z01; have w3c10 := old_cell (p := ⟨w.heap.size + 1, 0, none⟩) (Below.refl _ _) hbw3 (by simp <;> omega) w2c10; have w3z10 := old_frozen (p := ⟨w.heap.size + 1, 0, none⟩) (Below.refl _ _) hbw3 (by simp <;> omega) w2z10; have w3c11 := old_cell (p := ⟨w.heap.size + 1, 1, none⟩) (Below.refl _ _) hbw3 (by simp <;> omega) w2c11; have w3z11 := old_frozen (p := ⟨w.heap.size + 1, 1, none⟩) (Below.refl _ _) hbw3 (by simp <;> omega) w2z11; have Sw3 := hbw3.size; (try simp at Sw3); have Hw3 := hide (chainB (chainB (unhide Hw2) (Below.refl _ _)) hbw3); clear hbw3))
    all_goals (refine bodyPost_ret (v := .tuple #[.agg #[.float .f64 sl, .float .f64 sh], .bool (!n)]) (by simp [results, Try.results13, go_sem, w3c00, w3c01]) rfl ⟨rfl, set2B (unhide Hw3) (by omega) _ _⟩)

end Go.Proofs.Ytaekmlmehkkdfaa
