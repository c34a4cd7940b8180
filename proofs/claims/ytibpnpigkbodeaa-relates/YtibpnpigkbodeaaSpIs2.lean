/-
  Is of the program, over letters: Subset, Interior. (Written by tools/genrel.py.)
-/
import Derived.Test.YtibpnpigkbodeaaSpSet
import Derived.Test.YtibpnpigkbodeaaMx
import Derived.Deep.RegionHeld3
namespace Go.Proofs.Ytibpnpigkbodeaa
open Go.RowKit Flt
set_option linter.unusedVariables false      -- the cases share one head: not every case uses every name of it

set_option maxHeartbeats 8000000 in
theorem spIs_1 (lo hi l2 h2 : Nat) {x0 y0 x1 y1 : Nat} {m n : Nat} {b1 b2 : Bool} (hS1 : Hid (∀ w, Calls Try.prog 27 #[iv lo hi] w fun e w' => e = .returned (iv x0 y0) ∧ Below w.heap.size w w')) (hS2 : Hid (∀ w, Calls Try.prog 27 #[iv l2 h2] w fun e w' => e = .returned (iv x1 y1) ∧ Below w.heap.size w w')) (hM : Hid (∀ w, Calls Try.prog 17 #[iv x0 y0, iv x1 y1] w fun e w' => e = .returned (iv m n) ∧ Below w.heap.size w w')) (t1 : (FloatKind.f64.format.order m x0 == some .eq) = b1) (t2 : (FloatKind.f64.format.order n y0 == some .eq) = b2) (w : World) :
    Calls Try.prog 15 #[.int .i64 1, iv lo hi, iv l2 h2] w fun e w' => e = .returned (.bool (b1 && b2)) ∧ Below w.heap.size w w' := by
  have hst := run_store_float
  have hq := run_eq_float
  unfold iv at *
  go_enter Try.func15, Try.ntmps15
  go_wp2_with fail
  go_region_with (first | (go_at_call_of 27 (Value.float FloatKind.f64 lo); refine ((unhide hS1) _).mono ?_; rintro e w1 ⟨rfl, hbw1⟩; obtain ⟨w1c00, w1z00, w1c01, w1z01⟩ := bN hbw1 (w.heap.size) (by simp <;> omega); obtain ⟨w1c10, w1z10, w1c11, w1z11⟩ := bN hbw1 (w.heap.size + 1) (by simp <;> omega); simp [go_sem] at w1c00 w1z00 w1c01 w1z01 w1c10 w1z10 w1c11 w1z11; have Sw1 := hbw1.size; (try simp at Sw1); have Hw1 := hide (chainB ((twoB w _ _).drew) hbw1); clear hbw1) | (go_at_call_of 27 (Value.float FloatKind.f64 l2); refine ((unhide hS2) _).mono ?_; rintro e w2 ⟨rfl, hbw2⟩; obtain ⟨w2c00, w2z00, w2c01, w2z01⟩ := bO (Below.refl _ _) hbw2 (by omega) w1c00 w1z00 w1c01 w1z01; obtain ⟨w2c10, w2z10, w2c11, w2z11⟩ := bO (Below.refl _ _) hbw2 (by omega) w1c10 w1z10 w1c11 w1z11; have Sw2 := hbw2.size; (try simp at Sw2); have Hw2 := hide (chainB (chainB (unhide Hw1) (Below.refl _ _)) hbw2); clear hbw2))
  all_goals (
    generalize hv1 : (w2.setCell ⟨w.heap.size, 0, none⟩ (.float .f64 x0)).setCell ⟨w.heap.size, 1, none⟩ (.float .f64 y0) = v1
    obtain ⟨v1c00, v1z00, v1c01, v1z01⟩ := bW hv1 w2c00 w2z00 w2c01 w2z01
    obtain ⟨v1c10, v1z10, v1c11, v1z11⟩ := bK hv1 (by omega) w2c10 w2z10 w2c11 w2z11
    have Hv1 := hide (bB hv1 (unhide Hw2) (by omega))
    have Sv1 := bS hv1 (show w.heap.size + 2 ≤ w2.heap.size by omega)
    clear hv1
    generalize hv2 : (v1.setCell ⟨w.heap.size + 1, 0, none⟩ (.float .f64 x1)).setCell ⟨w.heap.size + 1, 1, none⟩ (.float .f64 y1) = v2
    obtain ⟨v2c10, v2z10, v2c11, v2z11⟩ := bW hv2 v1c10 v1z10 v1c11 v1z11
    obtain ⟨v2c00, v2z00, v2c01, v2z01⟩ := bK hv2 (by omega) v1c00 v1z00 v1c01 v1z01
    have Hv2 := hide (bB hv2 (unhide Hv1) (by omega))
    have Sv2 := bS hv2 (show w.heap.size + 2 ≤ v1.heap.size by omega)
    clear hv2
    go_wp2_with fail
    cases b1 <;> cases b2
    all_goals (
      go_region_held3 (fun W => W.cell? ⟨w.heap.size, 0, none⟩ = some (.float .f64 x0) ∧ W.cell? ⟨w.heap.size, 1, none⟩ = some (.float .f64 y0) ∧ W.cell? ⟨w.heap.size + 1, 0, none⟩ = some (.float .f64 x1) ∧ W.cell? ⟨w.heap.size + 1, 1, none⟩ = some (.float .f64 y1)) (first | (go_keep; done) | exact ⟨w3c00, w3c01, w3c10, w3c11⟩) (first | (go_at_call 17; refine ((unhide hM) _).mono ?_; rintro e w3 ⟨rfl, hbw3⟩; obtain ⟨w3c00, w3z00, w3c01, w3z01⟩ := bO ((Below.refl _ v2).drew) hbw3 (by omega) v2c00 v2z00 v2c01 v2z01; obtain ⟨w3c10, w3z10, w3c11, w3z11⟩ := bO ((Below.refl _ v2).drew) hbw3 (by omega) v2c10 v2z10 v2c11 v2z11; have Sw3 := hbw3.size; (try simp at Sw3); have Hw3 := hide (chainB (chainB (unhide Hv2) ((Below.refl _ v2).drew)) hbw3); clear hbw3))
      all_goals (go_wp2; go_ret; exact ⟨rfl, unhide Hw3⟩)))

set_option maxHeartbeats 8000000 in
theorem spIs_2e (lo hi l2 h2 : Nat) {x0 y0 x1 y1 : Nat} {z1 z2 : Nat} (hS1 : Hid (∀ w, Calls Try.prog 27 #[iv lo hi] w fun e w' => e = .returned (iv x0 y0) ∧ Below w.heap.size w w')) (hS2 : Hid (∀ w, Calls Try.prog 27 #[iv l2 h2] w fun e w' => e = .returned (iv x1 y1) ∧ Below w.heap.size w w')) (hE : Hid (∀ w, Calls Try.prog 28 #[] w fun e w' => e = .returned (iv z1 z2) ∧ Below w.heap.size w w')) (t1 : (FloatKind.f64.format.order x0 z1 == some .eq) = true) (t2 : (FloatKind.f64.format.order y0 z2 == some .eq) = true) (w : World) :
    Calls Try.prog 15 #[.int .i64 2, iv lo hi, iv l2 h2] w fun e w' => e = .returned (.bool true) ∧ Below w.heap.size w w' := by
  have hst := run_store_float
  have hq := run_eq_float
  unfold iv at *
  go_enter Try.func15, Try.ntmps15
  go_wp2_with fail
  go_region_with (first | (go_at_call_of 27 (Value.float FloatKind.f64 lo); refine ((unhide hS1) _).mono ?_; rintro e w1 ⟨rfl, hbw1⟩; obtain ⟨w1c00, w1z00, w1c01, w1z01⟩ := bN hbw1 (w.heap.size) (by simp <;> omega); obtain ⟨w1c10, w1z10, w1c11, w1z11⟩ := bN hbw1 (w.heap.size + 1) (by simp <;> omega); simp [go_sem] at w1c00 w1z00 w1c01 w1z01 w1c10 w1z10 w1c11 w1z11; have Sw1 := hbw1.size; (try simp at Sw1); have Hw1 := hide (chainB ((twoB w _ _).drew) hbw1); clear hbw1) | (go_at_call_of 27 (Value.float FloatKind.f64 l2); refine ((unhide hS2) _).mono ?_; rintro e w2 ⟨rfl, hbw2⟩; obtain ⟨w2c00, w2z00, w2c01, w2z01⟩ := bO (Below.refl _ _) hbw2 (by omega) w1c00 w1z00 w1c01 w1z01; obtain ⟨w2c10, w2z10, w2c11, w2z11⟩ := bO (Below.refl _ _) hbw2 (by omega) w1c10 w1z10 w1c11 w1z11; have Sw2 := hbw2.size; (try simp at Sw2); have Hw2 := hide (chainB (chainB (unhide Hw1) (Below.refl _ _)) hbw2); clear hbw2))
  all_goals (
    generalize hv1 : (w2.setCell ⟨w.heap.size, 0, none⟩ (.float .f64 x0)).setCell ⟨w.heap.size, 1, none⟩ (.float .f64 y0) = v1
    obtain ⟨v1c00, v1z00, v1c01, v1z01⟩ := bW hv1 w2c00 w2z00 w2c01 w2z01
    obtain ⟨v1c10, v1z10, v1c11, v1z11⟩ := bK hv1 (by omega) w2c10 w2z10 w2c11 w2z11
    have Hv1 := hide (bB hv1 (unhide Hw2) (by omega))
    have Sv1 := bS hv1 (show w.heap.size + 2 ≤ w2.heap.size by omega)
    clear hv1
    generalize hv2 : (v1.setCell ⟨w.heap.size + 1, 0, none⟩ (.float .f64 x1)).setCell ⟨w.heap.size + 1, 1, none⟩ (.float .f64 y1) = v2
    obtain ⟨v2c10, v2z10, v2c11, v2z11⟩ := bW hv2 v1c10 v1z10 v1c11 v1z11
    obtain ⟨v2c00, v2z00, v2c01, v2z01⟩ := bK hv2 (by omega) v1c00 v1z00 v1c01 v1z01
    have Hv2 := hide (bB hv2 (unhide Hv1) (by omega))
    have Sv2 := bS hv2 (show w.heap.size + 2 ≤ v1.heap.size by omega)
    clear hv2
    go_wp2_with fail
    go_region_with (first | (go_at_call 28; refine ((unhide hE) _).mono ?_; rintro e w3 ⟨rfl, hbw3⟩; obtain ⟨w3c00, w3z00, w3c01, w3z01⟩ := bO ((Below.refl _ v2).drew) hbw3 (by omega) v2c00 v2z00 v2c01 v2z01; obtain ⟨w3c10, w3z10, w3c11, w3z11⟩ := bO ((Below.refl _ v2).drew) hbw3 (by omega) v2c10 v2z10 v2c11 v2z11; have Sw3 := hbw3.size; (try simp at Sw3); have Hw3 := hide (chainB (chainB (unhide Hv2) ((Below.refl _ v2).drew)) hbw3); clear hbw3))
    all_goals (go_wp2; go_ret; exact ⟨rfl, unhide Hw3⟩))

set_option maxHeartbeats 8000000 in
theorem spIs_2n (lo hi l2 h2 : Nat) {x0 y0 x1 y1 : Nat} {z1 z2 : Nat} {b : Bool} (hS1 : Hid (∀ w, Calls Try.prog 27 #[iv lo hi] w fun e w' => e = .returned (iv x0 y0) ∧ Below w.heap.size w w')) (hS2 : Hid (∀ w, Calls Try.prog 27 #[iv l2 h2] w fun e w' => e = .returned (iv x1 y1) ∧ Below w.heap.size w w')) (hE : Hid (∀ w, Calls Try.prog 28 #[] w fun e w' => e = .returned (iv z1 z2) ∧ Below w.heap.size w w')) (t1 : (FloatKind.f64.format.order x0 z1 == some .eq) = false) (hI : Hid (∀ w, Calls Try.prog 32 #[iv x0 y0, iv x1 y1] w fun e w' => e = .returned (.bool b) ∧ Below w.heap.size w w')) (w : World) :
    Calls Try.prog 15 #[.int .i64 2, iv lo hi, iv l2 h2] w fun e w' => e = .returned (.bool b) ∧ Below w.heap.size w w' := by
  have hst := run_store_float
  have hq := run_eq_float
  unfold iv at *
  go_enter Try.func15, Try.ntmps15
  go_wp2_with fail
  go_region_with (first | (go_at_call_of 27 (Value.float FloatKind.f64 lo); refine ((unhide hS1) _).mono ?_; rintro e w1 ⟨rfl, hbw1⟩; obtain ⟨w1c00, w1z00, w1c01, w1z01⟩ := bN hbw1 (w.heap.size) (by simp <;> omega); obtain ⟨w1c10, w1z10, w1c11, w1z11⟩ := bN hbw1 (w.heap.size + 1) (by simp <;> omega); simp [go_sem] at w1c00 w1z00 w1c01 w1z01 w1c10 w1z10 w1c11 w1z11; have Sw1 := hbw1.size; (try simp at Sw1); have Hw1 := hide (chainB ((twoB w _ _).drew) hbw1); clear hbw1) | (go_at_call_of 27 (Value.float FloatKind.f64 l2); refine ((unhide hS2) _).mono ?_; rintro e w2 ⟨rfl, hbw2⟩; obtain ⟨w2c00, w2z00, w2c01, w2z01⟩ := bO (Below.refl _ _) hbw2 (by omega) w1c00 w1z00 w1c01 w1z01; obtain ⟨w2c10, w2z10, w2c11, w2z11⟩ := bO (Below.refl _ _) hbw2 (by omega) w1c10 w1z10 w1c11 w1z11; have Sw2 := hbw2.size; (try simp at Sw2); have Hw2 := hide (chainB (chainB (unhide Hw1) (Below.refl _ _)) hbw2); clear hbw2))
  all_goals (
    generalize hv1 : (w2.setCell ⟨w.heap.size, 0, none⟩ (.float .f64 x0)).setCell ⟨w.heap.size, 1, none⟩ (.float .f64 y0) = v1
    obtain ⟨v1c00, v1z00, v1c01, v1z01⟩ := bW hv1 w2c00 w2z00 w2c01 w2z01
    obtain ⟨v1c10, v1z10, v1c11, v1z11⟩ := bK hv1 (by omega) w2c10 w2z10 w2c11 w2z11
    have Hv1 := hide (bB hv1 (unhide Hw2) (by omega))
    have Sv1 := bS hv1 (show w.heap.size + 2 ≤ w2.heap.size by omega)
    clear hv1
    generalize hv2 : (v1.setCell ⟨w.heap.size + 1, 0, none⟩ (.float .f64 x1)).setCell ⟨w.heap.size + 1, 1, none⟩ (.float .f64 y1) = v2
    obtain ⟨v2c10, v2z10, v2c11, v2z11⟩ := bW hv2 v1c10 v1z10 v1c11 v1z11
    obtain ⟨v2c00, v2z00, v2c01, v2z01⟩ := bK hv2 (by omega) v1c00 v1z00 v1c01 v1z01
    have Hv2 := hide (bB hv2 (unhide Hv1) (by omega))
    have Sv2 := bS hv2 (show w.heap.size + 2 ≤ v1.heap.size by omega)
    clear hv2
    go_wp2_with fail
    go_region_held3 (fun W => W.cell? ⟨w.heap.size, 0, none⟩ = some (.float .f64 x0) ∧ W.cell? ⟨w.heap.size, 1, none⟩ = some (.float .f64 y0) ∧ W.cell? ⟨w.heap.size + 1, 0, none⟩ = some (.float .f64 x1) ∧ W.cell? ⟨w.heap.size + 1, 1, none⟩ = some (.float .f64 y1)) (first | (go_keep; done) | exact ⟨w3c00, w3c01, w3c10, w3c11⟩ | exact ⟨w4c00, w4c01, w4c10, w4c11⟩) (first | (go_at_call 28; refine ((unhide hE) _).mono ?_; rintro e w3 ⟨rfl, hbw3⟩; obtain ⟨w3c00, w3z00, w3c01, w3z01⟩ := bO ((Below.refl _ v2).drew) hbw3 (by omega) v2c00 v2z00 v2c01 v2z01; obtain ⟨w3c10, w3z10, w3c11, w3z11⟩ := bO ((Below.refl _ v2).drew) hbw3 (by omega) v2c10 v2z10 v2c11 v2z11; have Sw3 := hbw3.size; (try simp at Sw3); have Hw3 := hide (chainB (chainB (unhide Hv2) ((Below.refl _ v2).drew)) hbw3); clear hbw3) | (go_at_call 32; refine ((unhide hI) _).mono ?_; rintro e w4 ⟨rfl, hbw4⟩; obtain ⟨w4c00, w4z00, w4c01, w4z01⟩ := bO (Below.refl _ _) hbw4 (by omega) w3c00 w3z00 w3c01 w3z01; obtain ⟨w4c10, w4z10, w4c11, w4z11⟩ := bO (Below.refl _ _) hbw4 (by omega) w3c10 w3z10 w3c11 w3z11; have Sw4 := hbw4.size; (try simp at Sw4); have Hw4 := hide (chainB (chainB (unhide Hw3) (Below.refl _ _)) hbw4); clear hbw4))
    all_goals (go_wp2; go_ret; exact ⟨rfl, unhide Hw4⟩))

end Go.Proofs.Ytibpnpigkbodeaa
