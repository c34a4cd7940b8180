/-
  The program's New. (Written by tools/gennew.py.)
-/
import Derived.Test.YtaekmlmehkkdfaaSpSet
namespace Go.Proofs.Ytaekmlmehkkdfaa
open Go.RowKit Flt

set_option maxHeartbeats 1000000 in
theorem new_walk (lo hi : Nat) (hl : lo < 18446744073709551616) (hh : hi < 18446744073709551616) (w : World) :
    Calls Try.prog 12 #[.float .f64 lo, .float .f64 hi] w fun e w' => e = .returned (.tuple #[iv (loB lo hi) (hiB lo hi), .bool (hasB lo hi)]) ∧ Below w.heap.size w w' := by
  have hst := run_store_float
  have hS := hide (fun w => settled_walk lo hi hl hh w)
  have hE := hide empty_walk
  have hq := run_eq_float
  have t1 := t_eq (loB_lt (hi := hi) hl) infW_lt
  have t2 := t_eq (hiB_lt (lo := lo) hh) ninfW_lt
  cases h : hasB lo hi
  · obtain ⟨e1, e2⟩ := eqB_taken_no h
    rw [e1] at t1
    rw [e2] at t2
    clear hl hh h e1 e2
    generalize loB lo hi = sl at *
    generalize hiB lo hi = sh at *
    generalize infW = x at *
    generalize ninfW = y at *
    unfold iv at *
    go_enter Try.func12, Try.ntmps12
    go_wp2_with (first | (go_at_call 27; refine ((unhide hS) _).mono ?_; rintro e w1 ⟨rfl, hbw1⟩; have w1c00 := hbw1.cell (p := ⟨w.heap.size, 0, none⟩) (by simp <;> omega); have w1z00 := hbw1.frozen (p := ⟨w.heap.size, 0, none⟩) (by simp <;> omega); have w1c01 := hbw1.cell (p := ⟨w.heap.size, 1, none⟩) (by simp <;> omega); have w1z01 := hbw1.frozen (p := ⟨w.heap.size, 1, none⟩) (by simp <;> omega); simp [go_sem] at w1c00 w1z00 w1c01 w1z01; have Sw1 := hbw1.size; (try simp at Sw1); have Hw1 := hide (chainB (below_one w _) hbw1); clear hbw1))
    go_region_with (first | (go_at_call 28; refine ((unhide hE) _).mono ?_; rintro e w2 ⟨rfl, hbw2⟩; have w2ca0 := hbw2.cell (p := ⟨w1.heap.size, 0, none⟩) (by simp <;> omega); have w2za0 := hbw2.frozen (p := ⟨w1.heap.size, 0, none⟩) (by simp <;> omega); have w2ca1 := hbw2.cell (p := ⟨w1.heap.size, 1, none⟩) (by simp <;> omega); have w2za1 := hbw2.frozen (p := ⟨w1.heap.size, 1, none⟩) (by simp <;> omega); simp [go_sem] at w2ca0 w2za0 w2ca1 w2za1; have w2c00 := old_cell (p := ⟨w.heap.size, 0, none⟩) ((below_one w1 _).drew) hbw2 (by simp <;> omega) w1c00; have w2z00 := old_frozen (p := ⟨w.heap.size, 0, none⟩) ((below_one w1 _).drew) hbw2 (by simp <;> omega) w1z00; have w2c01 := old_cell (p := ⟨w.heap.size, 1, none⟩) ((below_one w1 _).drew) hbw2 (by simp <;> omega) w1c01; have w2z01 := old_frozen (p := ⟨w.heap.size, 1, none⟩) ((below_one w1 _).drew) hbw2 (by simp <;> omega) w1z01; have Sw2 := hbw2.size; (try simp at Sw2); have Hw2 := hide (chainB (chainB (unhide Hw1) ((below_one w1 _).drew)) hbw2); clear hbw2))
    all_goals (go_wp2; refine bodyPost_ret (v := .tuple #[.agg #[.float .f64 sl, .float .f64 sh], .bool false]) (by simp [results, Try.results12, go_sem, w2c00, w2c01]) rfl ⟨rfl, set2B (unhide Hw2) (by omega) _ _⟩)
  · have e1 := eqB_taken_yes hl h
    rw [e1] at t1
    clear hl hh h e1 t2
    generalize loB lo hi = sl at *
    generalize hiB lo hi = sh at *
    generalize infW = x at *
    generalize ninfW = y at *
    unfold iv at *
    go_enter Try.func12, Try.ntmps12
    go_wp2_with (first | (go_at_call 27; refine ((unhide hS) _).mono ?_; rintro e w1 ⟨rfl, hbw1⟩; have w1c00 := hbw1.cell (p := ⟨w.heap.size, 0, none⟩) (by simp <;> omega); have w1z00 := hbw1.frozen (p := ⟨w.heap.size, 0, none⟩) (by simp <;> omega); have w1c01 := hbw1.cell (p := ⟨w.heap.size, 1, none⟩) (by simp <;> omega); have w1z01 := hbw1.frozen (p := ⟨w.heap.size, 1, none⟩) (by simp <;> omega); simp [go_sem] at w1c00 w1z00 w1c01 w1z01; have Sw1 := hbw1.size; (try simp at Sw1); have Hw1 := hide (chainB (below_one w _) hbw1); clear hbw1))
    go_region_with (first | (go_at_call 28; refine ((unhide hE) _).mono ?_; rintro e w2 ⟨rfl, hbw2⟩; have w2ca0 := hbw2.cell (p := ⟨w1.heap.size, 0, none⟩) (by simp <;> omega); have w2za0 := hbw2.frozen (p := ⟨w1.heap.size, 0, none⟩) (by simp <;> omega); have w2ca1 := hbw2.cell (p := ⟨w1.heap.size, 1, none⟩) (by simp <;> omega); have w2za1 := hbw2.frozen (p := ⟨w1.heap.size, 1, none⟩) (by simp <;> omega); simp [go_sem] at w2ca0 w2za0 w2ca1 w2za1; have w2c00 := old_cell (p := ⟨w.heap.size, 0, none⟩) ((below_one w1 _).drew) hbw2 (by simp <;> omega) w1c00; have w2z00 := old_frozen (p := ⟨w.heap.size, 0, none⟩) ((below_one w1 _).drew) hbw2 (by simp <;> omega) w1z00; have w2c01 := old_cell (p := ⟨w.heap.size, 1, none⟩) ((below_one w1 _).drew) hbw2 (by simp <;> omega) w1c01; have w2z01 := old_frozen (p := ⟨w.heap.size, 1, none⟩) ((below_one w1 _).drew) hbw2 (by simp <;> omega) w1z01; have Sw2 := hbw2.size; (try simp at Sw2); have Hw2 := hide (chainB (chainB (unhide Hw1) ((below_one w1 _).drew)) hbw2); clear hbw2))
    all_goals (go_wp2; refine bodyPost_ret (v := .tuple #[.agg #[.float .f64 sl, .float .f64 sh], .bool true]) (by simp [results, Try.results12, go_sem, w2c00, w2c01]) rfl ⟨rfl, set2B (unhide Hw2) (by omega) _ _⟩)

end Go.Proofs.Ytaekmlmehkkdfaa
