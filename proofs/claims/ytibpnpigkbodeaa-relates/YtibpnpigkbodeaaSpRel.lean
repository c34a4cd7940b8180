/-
  Meet, Hull of the program, over letters. (Written by tools/genrel.py.)
-/
import Derived.Test.YtibpnpigkbodeaaSpSet
import Derived.Test.YtibpnpigkbodeaaMx
import Derived.Deep.RegionHeld3
namespace Go.Proofs.Ytibpnpigkbodeaa
open Go.RowKit Flt
set_option linter.unusedVariables false      -- the cases share one head: not every case uses every name of it

set_option maxHeartbeats 8000000 in
theorem spMeet_core (lo hi l2 h2 : Nat) {x0 y0 x1 y1 : Nat} {p q r s : Nat} (hS1 : Hid (∀ w, Calls Try.prog 27 #[iv lo hi] w fun e w' => e = .returned (iv x0 y0) ∧ Below w.heap.size w w')) (hS2 : Hid (∀ w, Calls Try.prog 27 #[iv l2 h2] w fun e w' => e = .returned (iv x1 y1) ∧ Below w.heap.size w w')) (m1 : ∀ (ts : Array TypeId) (t : TypeId) (w : World), (Builtin.max_ ts t #[.float .f64 x0, .float .f64 x1]).run Try.prog w = .ok (.float .f64 p) w) (m2 : ∀ (ts : Array TypeId) (t : TypeId) (w : World), (Builtin.min_ ts t #[.float .f64 y0, .float .f64 y1]).run Try.prog w = .ok (.float .f64 q) w) (hS3 : Hid (∀ w, Calls Try.prog 27 #[iv p q] w fun e w' => e = .returned (iv r s) ∧ Below w.heap.size w w')) (w : World) :
    Calls Try.prog 17 #[iv lo hi, iv l2 h2] w fun e w' => e = .returned (iv r s) ∧ Below w.heap.size w w' := by
  have hst := run_store_float
  have hq := run_eq_float
  unfold iv at *
  go_enter Try.func17, Try.ntmps17
  go_wp2_with fail
  go_region_with (first | (go_at_call_of 27 (Value.float FloatKind.f64 lo); refine ((unhide hS1) _).mono ?_; rintro e w1 ⟨rfl, hbw1⟩; obtain ⟨w1c00, w1z00, w1c01, w1z01⟩ := bN hbw1 (w.heap.size) (by simp <;> omega); obtain ⟨w1c10, w1z10, w1c11, w1z11⟩ := bN hbw1 (w.heap.size + 1) (by simp <;> omega); obtain ⟨w1c20, w1z20, w1c21, w1z21⟩ := bN hbw1 (w.heap.size + 2) (by simp <;> omega); simp [go_sem] at w1c00 w1z00 w1c01 w1z01 w1c10 w1z10 w1c11 w1z11 w1c20 w1z20 w1c21 w1z21; have Sw1 := hbw1.size; (try simp at Sw1); have Hw1 := hide (chainB ((threeB w _ _ _).drew) hbw1); clear hbw1) | (go_at_call_of 27 (Value.float FloatKind.f64 l2); refine ((unhide hS2) _).mono ?_; rintro e w2 ⟨rfl, hbw2⟩; obtain ⟨w2c00, w2z00, w2c01, w2z01⟩ := bO (Below.refl _ _) hbw2 (by omega) w1c00 w1z00 w1c01 w1z01; obtain ⟨w2c10, w2z10, w2c11, w2z11⟩ := bO (Below.refl _ _) hbw2 (by omega) w1c10 w1z10 w1c11 w1z11; obtain ⟨w2c20, w2z20, w2c21, w2z21⟩ := bO (Below.refl _ _) hbw2 (by omega) w1c20 w1z20 w1c21 w1z21; have Sw2 := hbw2.size; (try simp at Sw2); have Hw2 := hide (chainB (chainB (unhide Hw1) (Below.refl _ _)) hbw2); clear hbw2))
  all_goals (
    generalize hv1 : (w2.setCell ⟨w.heap.size, 0, none⟩ (.float .f64 x0)).setCell ⟨w.heap.size, 1, none⟩ (.float .f64 y0) = v1
    obtain ⟨v1c00, v1z00, v1c01, v1z01⟩ := bW hv1 w2c00 w2z00 w2c01 w2z01
    obtain ⟨v1c10, v1z10, v1c11, v1z11⟩ := bK hv1 (by omega) w2c10 w2z10 w2c11 w2z11
    obtain ⟨v1c20, v1z20, v1c21, v1z21⟩ := bK hv1 (by omega) w2c20 w2z20 w2c21 w2z21
    have Hv1 := hide (bB hv1 (unhide Hw2) (by omega))
    have Sv1 := bS hv1 (show w.heap.size + 3 ≤ w2.heap.size by omega)
    clear hv1
    generalize hv2 : (v1.setCell ⟨w.heap.size + 1, 0, none⟩ (.float .f64 x1)).setCell ⟨w.heap.size + 1, 1, none⟩ (.float .f64 y1) = v2
    obtain ⟨v2c10, v2z10, v2c11, v2z11⟩ := bW hv2 v1c10 v1z10 v1c11 v1z11
    obtain ⟨v2c00, v2z00, v2c01, v2z01⟩ := bK hv2 (by omega) v1c00 v1z00 v1c01 v1z01
    obtain ⟨v2c20, v2z20, v2c21, v2z21⟩ := bK hv2 (by omega) v1c20 v1z20 v1c21 v1z21
    have Hv2 := hide (bB hv2 (unhide Hv1) (by omega))
    have Sv2 := bS hv2 (show w.heap.size + 3 ≤ v1.heap.size by omega)
    clear hv2
    go_wp2_with fail
    refine ((unhide hS3) _).mono ?_
    rintro e w3 ⟨rfl, hbw3⟩
    obtain ⟨w3c00, w3z00, w3c01, w3z01⟩ := bO (Below.refl _ _) hbw3 (by omega) v2c00 v2z00 v2c01 v2z01
    obtain ⟨w3c10, w3z10, w3c11, w3z11⟩ := bO (Below.refl _ _) hbw3 (by omega) v2c10 v2z10 v2c11 v2z11
    obtain ⟨w3c20, w3z20, w3c21, w3z21⟩ := bO (Below.refl _ _) hbw3 (by omega) v2c20 v2z20 v2c21 v2z21
    have Sw3 := hbw3.size
    (try simp at Sw3)
    have Hw3 := hide (chainB (chainB (unhide Hv2) (Below.refl _ _)) hbw3)
    clear hbw3
    go_wp2_with fail
    refine bodyPost_ret (v := .agg #[.float .f64 r, .float .f64 s]) (by simp [results, Try.results17, go_sem, w3c20, w3c21]) rfl ⟨rfl, set2B (unhide Hw3) (by omega) _ _⟩)

set_option maxHeartbeats 8000000 in
theorem spHull_core (lo hi l2 h2 : Nat) {x0 y0 x1 y1 : Nat} {p q : Nat} (hS1 : Hid (∀ w, Calls Try.prog 27 #[iv lo hi] w fun e w' => e = .returned (iv x0 y0) ∧ Below w.heap.size w w')) (hS2 : Hid (∀ w, Calls Try.prog 27 #[iv l2 h2] w fun e w' => e = .returned (iv x1 y1) ∧ Below w.heap.size w w')) (m1 : ∀ (ts : Array TypeId) (t : TypeId) (w : World), (Builtin.min_ ts t #[.float .f64 x0, .float .f64 x1]).run Try.prog w = .ok (.float .f64 p) w) (m2 : ∀ (ts : Array TypeId) (t : TypeId) (w : World), (Builtin.max_ ts t #[.float .f64 y0, .float .f64 y1]).run Try.prog w = .ok (.float .f64 q) w) (w : World) :
    Calls Try.prog 19 #[iv lo hi, iv l2 h2] w fun e w' => e = .returned (iv p q) ∧ Below w.heap.size w w' := by
  have hst := run_store_float
  have hq := run_eq_float
  unfold iv at *
  go_enter Try.func19, Try.ntmps19
  go_wp2_with fail
  go_region_with (first | (go_at_call_of 27 (Value.float FloatKind.f64 lo); refine ((unhide hS1) _).mono ?_; rintro e w1 ⟨rfl, hbw1⟩; obtain ⟨w1c00, w1z00, w1c01, w1z01⟩ := bN hbw1 (w.heap.size) (by simp <;> omega); obtain ⟨w1c10, w1z10, w1c11, w1z11⟩ := bN hbw1 (w.heap.size + 1) (by simp <;> omega); obtain ⟨w1c20, w1z20, w1c21, w1z21⟩ := bN hbw1 (w.heap.size + 2) (by simp <;> omega); simp [go_sem] at w1c00 w1z00 w1c01 w1z01 w1c10 w1z10 w1c11 w1z11 w1c20 w1z20 w1c21 w1z21; have Sw1 := hbw1.size; (try simp at Sw1); have Hw1 := hide (chainB ((threeB w _ _ _).drew) hbw1); clear hbw1) | (go_at_call_of 27 (Value.float FloatKind.f64 l2); refine ((unhide hS2) _).mono ?_; rintro e w2 ⟨rfl, hbw2⟩; obtain ⟨w2c00, w2z00, w2c01, w2z01⟩ := bO (Below.refl _ _) hbw2 (by omega) w1c00 w1z00 w1c01 w1z01; obtain ⟨w2c10, w2z10, w2c11, w2z11⟩ := bO (Below.refl _ _) hbw2 (by omega) w1c10 w1z10 w1c11 w1z11; obtain ⟨w2c20, w2z20, w2c21, w2z21⟩ := bO (Below.refl _ _) hbw2 (by omega) w1c20 w1z20 w1c21 w1z21; have Sw2 := hbw2.size; (try simp at Sw2); have Hw2 := hide (chainB (chainB (unhide Hw1) (Below.refl _ _)) hbw2); clear hbw2))
  all_goals (
    generalize hv1 : (w2.setCell ⟨w.heap.size, 0, none⟩ (.float .f64 x0)).setCell ⟨w.heap.size, 1, none⟩ (.float .f64 y0) = v1
    obtain ⟨v1c00, v1z00, v1c01, v1z01⟩ := bW hv1 w2c00 w2z00 w2c01 w2z01
    obtain ⟨v1c10, v1z10, v1c11, v1z11⟩ := bK hv1 (by omega) w2c10 w2z10 w2c11 w2z11
    obtain ⟨v1c20, v1z20, v1c21, v1z21⟩ := bK hv1 (by omega) w2c20 w2z20 w2c21 w2z21
    have Hv1 := hide (bB hv1 (unhide Hw2) (by omega))
    have Sv1 := bS hv1 (show w.heap.size + 3 ≤ w2.heap.size by omega)
    clear hv1
    generalize hv2 : (v1.setCell ⟨w.heap.size + 1, 0, none⟩ (.float .f64 x1)).setCell ⟨w.heap.size + 1, 1, none⟩ (.float .f64 y1) = v2
    obtain ⟨v2c10, v2z10, v2c11, v2z11⟩ := bW hv2 v1c10 v1z10 v1c11 v1z11
    obtain ⟨v2c00, v2z00, v2c01, v2z01⟩ := bK hv2 (by omega) v1c00 v1z00 v1c01 v1z01
    obtain ⟨v2c20, v2z20, v2c21, v2z21⟩ := bK hv2 (by omega) v1c20 v1z20 v1c21 v1z21
    have Hv2 := hide (bB hv2 (unhide Hv1) (by omega))
    have Sv2 := bS hv2 (show w.heap.size + 3 ≤ v1.heap.size by omega)
    clear hv2
    go_wp2_with fail
    refine bodyPost_ret (v := .agg #[.float .f64 p, .float .f64 q]) (by simp [results, Try.results19, go_sem, v2c20, v2c21]) rfl ⟨rfl, set2B (unhide Hv2) (by omega) _ _⟩)

end Go.Proofs.Ytibpnpigkbodeaa
