/-
  The program's intervals as they are taken: settled, New. (Written by tools/genset.py.)
-/
import Derived.Test.YtibpnpigkbodeaaSpIv
namespace Go.Proofs.Ytibpnpigkbodeaa
open Go.RowKit Flt

set_option maxHeartbeats 1000000 in
theorem settled_walk (lo hi : Nat) (hl : lo < 18446744073709551616) (hh : hi < 18446744073709551616) (w : World) :
    Calls Try.prog 27 #[iv lo hi] w fun e w' => e = .returned (iv (loB lo hi) (hiB lo hi)) ∧ Below w.heap.size w w' := by
  have hst := run_store_float
  have hH := hide (fun w => hasN_walk lo hi hl hh w)
  have hE := hide empty_walk
  have hP := hide (fun w => plainZero_walk lo hl w)
  have hQ := hide (fun w => plainZero_walk hi hh w)
  unfold loB hiB
  clear hl hh
  generalize plainB lo = pl at *
  generalize plainB hi = ph at *
  generalize infW = x at *
  generalize ninfW = y at *
  unfold iv at *
  cases h : hasB lo hi
  · rw [h] at hH
    clear h
    rw [if_neg (by decide), if_neg (by decide)]
    go_enter Try.func27, Try.ntmps27
    go_wp2_with (first | (go_at_call 37; refine ((unhide hH) _).mono ?_; rintro e w1 ⟨rfl, hbw1⟩; obtain ⟨w1c00, w1z00, w1c01, w1z01⟩ := bN hbw1 (w.heap.size) (by simp <;> omega); obtain ⟨w1c10, w1z10, w1c11, w1z11⟩ := bN hbw1 (w.heap.size + 1) (by simp <;> omega); simp [go_sem] at w1c00 w1z00 w1c01 w1z01 w1c10 w1z10 w1c11 w1z11; have Sw1 := hbw1.size; (try simp at Sw1); have Hw1 := hide (chainB (twoB w _ _) hbw1); clear hbw1) | (go_at_call 28; refine ((unhide hE) _).mono ?_; rintro e w2 ⟨rfl, hbw2⟩; obtain ⟨w2c10, w2z10, w2c11, w2z11⟩ := bO (Below.refl _ _) hbw2 (by omega) w1c10 w1z10 w1c11 w1z11; have Sw2 := hbw2.size; (try simp at Sw2); have Hw2 := hide (chainB (chainB (unhide Hw1) (Below.refl _ _)) hbw2); clear hbw2))
    refine bodyPost_ret (v := .agg #[.float .f64 x, .float .f64 y]) (by simp [results, Try.results27, go_sem, w2c10, w2c11]) rfl ⟨rfl, set2B (unhide Hw2) (by omega) _ _⟩
  · rw [h] at hH
    clear h
    rw [if_pos rfl, if_pos rfl]
    go_enter Try.func27, Try.ntmps27
    go_wp2_with (first | (go_at_call 37; refine ((unhide hH) _).mono ?_; rintro e w1 ⟨rfl, hbw1⟩; obtain ⟨w1c00, w1z00, w1c01, w1z01⟩ := bN hbw1 (w.heap.size) (by simp <;> omega); obtain ⟨w1c10, w1z10, w1c11, w1z11⟩ := bN hbw1 (w.heap.size + 1) (by simp <;> omega); simp [go_sem] at w1c00 w1z00 w1c01 w1z01 w1c10 w1z10 w1c11 w1z11; have Sw1 := hbw1.size; (try simp at Sw1); have Hw1 := hide (chainB (twoB w _ _) hbw1); clear hbw1))
    go_region_with (first | (go_at_call_of 25 (Value.float FloatKind.f64 lo); refine ((unhide hP) _).mono ?_; rintro e w0 ⟨rfl, rfl⟩) | (go_at_call 25; refine ((unhide hQ) _).mono ?_; rintro e w0 ⟨rfl, rfl⟩))
    all_goals (go_wp2; refine bodyPost_ret (v := .agg #[.float .f64 pl, .float .f64 ph]) (by simp [results, Try.results27, go_sem, w1c10, w1c11]) rfl ⟨rfl, set2B (unhide Hw1).drew (by omega) _ _⟩)

end Go.Proofs.Ytibpnpigkbodeaa
