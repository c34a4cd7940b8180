/-
  The program's New. (Written by tools/gennew.py.)
-/
import Derived.Test.YtibpnpigkbodeaaSpSet
namespace Go.Proofs.Ytibpnpigkbodeaa
open Go.RowKit Flt

set_option maxHeartbeats 1000000 in
theorem new_walk (lo hi : Nat) (hl : lo < 18446744073709551616) (hh : hi < 18446744073709551616) (w : World) :
    Calls Try.prog 12 #[.float .f64 lo, .float .f64 hi] w fun e w' => e = .returned (.tuple #[iv (loB lo hi) (hiB lo hi), .bool (hasB lo hi)]) ∧ Below w.heap.size w w' := by
  have hst := run_store_float
  have hS := hide (fun w => settled_walk lo hi hl hh w)
  have hE := hide empty_walk
  have hq := run_eq_float
  have t1 := t_eq (loB_lt (hi := hi) hl) infW_lt
  have t2 := t_eq (hiB_lt (lo := lo) hh) ninfW_lt
  cases h : hasB lo hi
  · obtain ⟨e1, e2⟩ := eqB_taken_no h
    rw [e1] at t1
    rw [e2] at t2
    clear hl hh h e1 e2
    generalize loB lo hi = sl at *
    generalize hiB lo hi = sh at *
    generalize infW = x at *
    generalize ninfW = y at *
    unfold iv at *
    go_enter Try.func12, Try.ntmps12
    go_wp2_with (first | (go_at_call 27; refine ((unhide hS) _).mono ?_; rintro e w1 ⟨rfl, hbw1⟩; obtain ⟨w1c00, w1z00, w1c01, w1z01⟩ := bN hbw1 (w.heap.size) (by simp <;> omega); simp [go_sem] at w1c00 w1z00 w1c01 w1z01; have Sw1 := hbw1.size; (try simp at Sw1); have Hw1 := hide (chainB (below_one w _) hbw1); clear hbw1))
    go_region_with (first | (go_at_call 28; refine ((unhide hE) _).mono ?_; rintro e w2 ⟨rfl, hbw2⟩; obtain ⟨w2ca0, w2za0, w2ca1, w2za1⟩ := bN hbw2 (w1.heap.size) (by simp <;> omega); simp [go_sem] at w2ca0 w2za0 w2ca1 w2za1; obtain ⟨w2c00, w2z00, w2c01, w2z01⟩ := bO ((below_one w1 _).drew) hbw2 (by omega) w1c00 w1z00 w1c01 w1z01; have Sw2 := hbw2.size; (try simp at Sw2); have Hw2 := hide (chainB (chainB (unhide Hw1) ((below_one w1 _).drew)) hbw2); clear hbw2))
    all_goals (go_wp2; refine bodyPost_ret (v := .tuple #[.agg #[.float .f64 sl, .float .f64 sh], .bool false]) (by simp [results, Try.results12, go_sem, w2c00, w2c01]) rfl ⟨rfl, set2B (unhide Hw2) (by omega) _ _⟩)
  · have e1 := eqB_taken_yes hl h
    rw [e1] at t1
    clear hl hh h e1 t2
    generalize loB lo hi = sl at *
    generalize hiB lo hi = sh at *
    generalize infW = x at *
    generalize ninfW = y at *
    unfold iv at *
    go_enter Try.func12, Try.ntmps12
    go_wp2_with (first | (go_at_call 27; refine ((unhide hS) _).mono ?_; rintro e w1 ⟨rfl, hbw1⟩; obtain ⟨w1c00, w1z00, w1c01, w1z01⟩ := bN hbw1 (w.heap.size) (by simp <;> omega); simp [go_sem] at w1c00 w1z00 w1c01 w1z01; have Sw1 := hbw1.size; (try simp at Sw1); have Hw1 := hide (chainB (below_one w _) hbw1); clear hbw1))
    go_region_with (first | (go_at_call 28; refine ((unhide hE) _).mono ?_; rintro e w2 ⟨rfl, hbw2⟩; obtain ⟨w2ca0, w2za0, w2ca1, w2za1⟩ := bN hbw2 (w1.heap.size) (by simp <;> omega); simp [go_sem] at w2ca0 w2za0 w2ca1 w2za1; obtain ⟨w2c00, w2z00, w2c01, w2z01⟩ := bO ((below_one w1 _).drew) hbw2 (by omega) w1c00 w1z00 w1c01 w1z01; have Sw2 := hbw2.size; (try simp at Sw2); have Hw2 := hide (chainB (chainB (unhide Hw1) ((below_one w1 _).drew)) hbw2); clear hbw2))
    all_goals (go_wp2; refine bodyPost_ret (v := .tuple #[.agg #[.float .f64 sl, .float .f64 sh], .bool true]) (by simp [results, Try.results12, go_sem, w2c00, w2c01]) rfl ⟨rfl, set2B (unhide Hw2) (by omega) _ _⟩)

end Go.Proofs.Ytibpnpigkbodeaa
