/-
  Meet, Hull of the reference, over letters. (Written by tools/genrefrel.py.)
-/
import Derived.Test.YtibpnpigkbodeaaLeast
import Derived.Deep.RegionHeld3
namespace Go.Proofs.Ytibpnpigkbodeaa
open Go.RowKit Flt
set_option linter.unusedVariables false      -- the cases share one head: not every case uses every name of it

set_option maxHeartbeats 8000000 in
theorem refMeet_e (lo hi l2 h2 : Nat) {x0 y0 x1 y1 : Nat} {a b l p q r s : Nat} (hT1 : Hid (∀ w, Calls Try.prog 31 #[iv lo hi] w fun e w' => e = .returned (iv x0 y0) ∧ Below w.heap.size w w')) (hT2 : Hid (∀ w, Calls Try.prog 31 #[iv l2 h2] w fun e w' => e = .returned (iv x1 y1) ∧ Below w.heap.size w w')) (n1 : ∀ w, (Op.unary UnOp.neg (.float .f64 x0)).run Try.prog w = .ok (.float .f64 a) w) (n2 : ∀ w, (Op.unary UnOp.neg (.float .f64 x1)).run Try.prog w = .ok (.float .f64 b) w) (n3 : ∀ w, (Op.unary UnOp.neg (.float .f64 l)).run Try.prog w = .ok (.float .f64 p) w) (hA : Hid (∀ w, Calls Try.prog 34 #[.float .f64 a, .float .f64 b] w fun e w' => e = .returned (.float .f64 l) ∧ w' = w)) (hB : Hid (∀ w, Calls Try.prog 34 #[.float .f64 y0, .float .f64 y1] w fun e w' => e = .returned (.float .f64 q) ∧ w' = w)) (t : (FloatKind.f64.format.order p q == some .gt) = true) (hE : Hid (∀ w, Calls Try.prog 35 #[] w fun e w' => e = .returned (iv r s) ∧ Below w.heap.size w w')) (w : World) :
    Calls Try.prog 18 #[iv lo hi, iv l2 h2] w fun e w' => e = .returned (iv r s) ∧ Below w.heap.size w w' := by
  have hst := run_store_float
  have hq := run_eq_float
  unfold iv at *
  go_enter Try.func18, Try.ntmps18
  go_wp2_with fail
  refine ((unhide hT1) _).mono ?_
  rintro e w1 ⟨rfl, hbw1⟩
  obtain ⟨w1c00, w1z00, w1c01, w1z01⟩ := bN hbw1 (w.heap.size) (by simp <;> omega)
  obtain ⟨w1c10, w1z10, w1c11, w1z11⟩ := bN hbw1 (w.heap.size + 1) (by simp <;> omega)
  obtain ⟨w1c20, w1z20, w1c21, w1z21⟩ := bN hbw1 (w.heap.size + 2) (by simp <;> omega)
  simp [go_sem] at w1c00 w1z00 w1c01 w1z01 w1c10 w1z10 w1c11 w1z11 w1c20 w1z20 w1c21 w1z21
  have Sw1 := hbw1.size
  (try simp at Sw1)
  have Hw1 := hide (chainB (threeB w _ _ _) hbw1)
  clear hbw1
  go_wp2_with fail
  generalize hv1 : (w1.setCell ⟨w.heap.size, 0, none⟩ (.float .f64 x0)).setCell ⟨w.heap.size, 1, none⟩ (.float .f64 y0) = v1
  obtain ⟨v1c00, v1z00, v1c01, v1z01⟩ := bW hv1 w1c00 w1z00 w1c01 w1z01
  obtain ⟨v1c10, v1z10, v1c11, v1z11⟩ := bK hv1 (by omega) w1c10 w1z10 w1c11 w1z11
  obtain ⟨v1c20, v1z20, v1c21, v1z21⟩ := bK hv1 (by omega) w1c20 w1z20 w1c21 w1z21
  have Hv1 := hide (bB hv1 (unhide Hw1) (by omega))
  have Sv1 := bS hv1 (show w.heap.size + 3 ≤ w1.heap.size by omega)
  clear hv1
  refine ((unhide hT2) _).mono ?_
  rintro e w2 ⟨rfl, hbw2⟩
  obtain ⟨w2c00, w2z00, w2c01, w2z01⟩ := bO (Below.refl _ _) hbw2 (by omega) v1c00 v1z00 v1c01 v1z01
  obtain ⟨w2c10, w2z10, w2c11, w2z11⟩ := bO (Below.refl _ _) hbw2 (by omega) v1c10 v1z10 v1c11 v1z11
  obtain ⟨w2c20, w2z20, w2c21, w2z21⟩ := bO (Below.refl _ _) hbw2 (by omega) v1c20 v1z20 v1c21 v1z21
  have Sw2 := hbw2.size
  (try simp at Sw2)
  have Hw2 := hide (chainB (chainB (unhide Hv1) (Below.refl _ _)) hbw2)
  clear hbw2
  go_wp2_with fail
  generalize hv2 : (w2.setCell ⟨w.heap.size + 1, 0, none⟩ (.float .f64 x1)).setCell ⟨w.heap.size + 1, 1, none⟩ (.float .f64 y1) = v2
  obtain ⟨v2c10, v2z10, v2c11, v2z11⟩ := bW hv2 w2c10 w2z10 w2c11 w2z11
  obtain ⟨v2c00, v2z00, v2c01, v2z01⟩ := bK hv2 (by omega) w2c00 w2z00 w2c01 w2z01
  obtain ⟨v2c20, v2z20, v2c21, v2z21⟩ := bK hv2 (by omega) w2c20 w2z20 w2c21 w2z21
  have Hv2 := hide (bB hv2 (unhide Hw2) (by omega))
  have Sv2 := bS hv2 (show w.heap.size + 3 ≤ w2.heap.size by omega)
  clear hv2
  go_region_held3 (fun W => W.cell? ⟨w.heap.size, 0, none⟩ = some (.float .f64 x0) ∧ W.cell? ⟨w.heap.size, 1, none⟩ = some (.float .f64 y0) ∧ W.cell? ⟨w.heap.size + 1, 0, none⟩ = some (.float .f64 x1) ∧ W.cell? ⟨w.heap.size + 1, 1, none⟩ = some (.float .f64 y1)) (first | (go_keep; done) | exact ⟨v2c00, v2c01, v2c10, v2c11⟩) (first | (go_at_call_of 34 (Value.float FloatKind.f64 a); refine ((unhide hA) _).mono ?_; rintro e w0 ⟨rfl, rfl⟩) | (go_at_call_of 34 (Value.float FloatKind.f64 y0); refine ((unhide hB) _).mono ?_; rintro e w0 ⟨rfl, rfl⟩))
  all_goals (
    go_wp2_with fail
    refine ((unhide hE) _).mono ?_
    rintro e w3 ⟨rfl, hbw3⟩
    obtain ⟨w3c00, w3z00, w3c01, w3z01⟩ := bO (chainB ((Below.refl _ v2).drew) (below_one _ _)) hbw3 (by omega) v2c00 v2z00 v2c01 v2z01
    obtain ⟨w3c10, w3z10, w3c11, w3z11⟩ := bO (chainB ((Below.refl _ v2).drew) (below_one _ _)) hbw3 (by omega) v2c10 v2z10 v2c11 v2z11
    obtain ⟨w3c20, w3z20, w3c21, w3z21⟩ := bO (chainB ((Below.refl _ v2).drew) (below_one _ _)) hbw3 (by omega) v2c20 v2z20 v2c21 v2z21
    have Sw3 := hbw3.size
    (try simp at Sw3)
    have Hw3 := hide (chainB (chainB (unhide Hv2) (chainB ((Below.refl _ v2).drew) (below_one _ _))) hbw3)
    clear hbw3
    go_wp2_with fail
    refine bodyPost_ret (v := .agg #[.float .f64 r, .float .f64 s]) (by simp [results, Try.results18, go_sem, w3c20, w3c21]) rfl ⟨rfl, set2B (unhide Hw3) (by omega) _ _⟩)

set_option maxHeartbeats 8000000 in
theorem refMeet_n (lo hi l2 h2 : Nat) {x0 y0 x1 y1 : Nat} {a b l p q r s : Nat} (hT1 : Hid (∀ w, Calls Try.prog 31 #[iv lo hi] w fun e w' => e = .returned (iv x0 y0) ∧ Below w.heap.size w w')) (hT2 : Hid (∀ w, Calls Try.prog 31 #[iv l2 h2] w fun e w' => e = .returned (iv x1 y1) ∧ Below w.heap.size w w')) (n1 : ∀ w, (Op.unary UnOp.neg (.float .f64 x0)).run Try.prog w = .ok (.float .f64 a) w) (n2 : ∀ w, (Op.unary UnOp.neg (.float .f64 x1)).run Try.prog w = .ok (.float .f64 b) w) (n3 : ∀ w, (Op.unary UnOp.neg (.float .f64 l)).run Try.prog w = .ok (.float .f64 p) w) (hA : Hid (∀ w, Calls Try.prog 34 #[.float .f64 a, .float .f64 b] w fun e w' => e = .returned (.float .f64 l) ∧ w' = w)) (hB : Hid (∀ w, Calls Try.prog 34 #[.float .f64 y0, .float .f64 y1] w fun e w' => e = .returned (.float .f64 q) ∧ w' = w)) (t : (FloatKind.f64.format.order p q == some .gt) = false) (hT3 : Hid (∀ w, Calls Try.prog 31 #[iv p q] w fun e w' => e = .returned (iv r s) ∧ Below w.heap.size w w')) (w : World) :
    Calls Try.prog 18 #[iv lo hi, iv l2 h2] w fun e w' => e = .returned (iv r s) ∧ Below w.heap.size w w' := by
  have hst := run_store_float
  have hq := run_eq_float
  unfold iv at *
  go_enter Try.func18, Try.ntmps18
  go_wp2_with fail
  refine ((unhide hT1) _).mono ?_
  rintro e w1 ⟨rfl, hbw1⟩
  obtain ⟨w1c00, w1z00, w1c01, w1z01⟩ := bN hbw1 (w.heap.size) (by simp <;> omega)
  obtain ⟨w1c10, w1z10, w1c11, w1z11⟩ := bN hbw1 (w.heap.size + 1) (by simp <;> omega)
  obtain ⟨w1c20, w1z20, w1c21, w1z21⟩ := bN hbw1 (w.heap.size + 2) (by simp <;> omega)
  simp [go_sem] at w1c00 w1z00 w1c01 w1z01 w1c10 w1z10 w1c11 w1z11 w1c20 w1z20 w1c21 w1z21
  have Sw1 := hbw1.size
  (try simp at Sw1)
  have Hw1 := hide (chainB (threeB w _ _ _) hbw1)
  clear hbw1
  go_wp2_with fail
  generalize hv1 : (w1.setCell ⟨w.heap.size, 0, none⟩ (.float .f64 x0)).setCell ⟨w.heap.size, 1, none⟩ (.float .f64 y0) = v1
  obtain ⟨v1c00, v1z00, v1c01, v1z01⟩ := bW hv1 w1c00 w1z00 w1c01 w1z01
  obtain ⟨v1c10, v1z10, v1c11, v1z11⟩ := bK hv1 (by omega) w1c10 w1z10 w1c11 w1z11
  obtain ⟨v1c20, v1z20, v1c21, v1z21⟩ := bK hv1 (by omega) w1c20 w1z20 w1c21 w1z21
  have Hv1 := hide (bB hv1 (unhide Hw1) (by omega))
  have Sv1 := bS hv1 (show w.heap.size + 3 ≤ w1.heap.size by omega)
  clear hv1
  refine ((unhide hT2) _).mono ?_
  rintro e w2 ⟨rfl, hbw2⟩
  obtain ⟨w2c00, w2z00, w2c01, w2z01⟩ := bO (Below.refl _ _) hbw2 (by omega) v1c00 v1z00 v1c01 v1z01
  obtain ⟨w2c10, w2z10, w2c11, w2z11⟩ := bO (Below.refl _ _) hbw2 (by omega) v1c10 v1z10 v1c11 v1z11
  obtain ⟨w2c20, w2z20, w2c21, w2z21⟩ := bO (Below.refl _ _) hbw2 (by omega) v1c20 v1z20 v1c21 v1z21
  have Sw2 := hbw2.size
  (try simp at Sw2)
  have Hw2 := hide (chainB (chainB (unhide Hv1) (Below.refl _ _)) hbw2)
  clear hbw2
  go_wp2_with fail
  generalize hv2 : (w2.setCell ⟨w.heap.size + 1, 0, none⟩ (.float .f64 x1)).setCell ⟨w.heap.size + 1, 1, none⟩ (.float .f64 y1) = v2
  obtain ⟨v2c10, v2z10, v2c11, v2z11⟩ := bW hv2 w2c10 w2z10 w2c11 w2z11
  obtain ⟨v2c00, v2z00, v2c01, v2z01⟩ := bK hv2 (by omega) w2c00 w2z00 w2c01 w2z01
  obtain ⟨v2c20, v2z20, v2c21, v2z21⟩ := bK hv2 (by omega) w2c20 w2z20 w2c21 w2z21
  have Hv2 := hide (bB hv2 (unhide Hw2) (by omega))
  have Sv2 := bS hv2 (show w.heap.size + 3 ≤ w2.heap.size by omega)
  clear hv2
  go_region_held3 (fun W => W.cell? ⟨w.heap.size, 0, none⟩ = some (.float .f64 x0) ∧ W.cell? ⟨w.heap.size, 1, none⟩ = some (.float .f64 y0) ∧ W.cell? ⟨w.heap.size + 1, 0, none⟩ = some (.float .f64 x1) ∧ W.cell? ⟨w.heap.size + 1, 1, none⟩ = some (.float .f64 y1)) (first | (go_keep; done) | exact ⟨v2c00, v2c01, v2c10, v2c11⟩) (first | (go_at_call_of 34 (Value.float FloatKind.f64 a); refine ((unhide hA) _).mono ?_; rintro e w0 ⟨rfl, rfl⟩) | (go_at_call_of 34 (Value.float FloatKind.f64 y0); refine ((unhide hB) _).mono ?_; rintro e w0 ⟨rfl, rfl⟩))
  all_goals (
    go_wp2_with fail
    refine ((unhide hT3) _).mono ?_
    rintro e w3 ⟨rfl, hbw3⟩
    obtain ⟨w3c00, w3z00, w3c01, w3z01⟩ := bO (chainB ((Below.refl _ v2).drew) (below_one _ _)) hbw3 (by omega) v2c00 v2z00 v2c01 v2z01
    obtain ⟨w3c10, w3z10, w3c11, w3z11⟩ := bO (chainB ((Below.refl _ v2).drew) (below_one _ _)) hbw3 (by omega) v2c10 v2z10 v2c11 v2z11
    obtain ⟨w3c20, w3z20, w3c21, w3z21⟩ := bO (chainB ((Below.refl _ v2).drew) (below_one _ _)) hbw3 (by omega) v2c20 v2z20 v2c21 v2z21
    have Sw3 := hbw3.size
    (try simp at Sw3)
    have Hw3 := hide (chainB (chainB (unhide Hv2) (chainB ((Below.refl _ v2).drew) (below_one _ _))) hbw3)
    clear hbw3
    go_wp2_with fail
    refine bodyPost_ret (v := .agg #[.float .f64 r, .float .f64 s]) (by simp [results, Try.results18, go_sem, w3c20, w3c21]) rfl ⟨rfl, set2B (unhide Hw3) (by omega) _ _⟩)

set_option maxHeartbeats 8000000 in
theorem refHull_core (lo hi l2 h2 : Nat) {x0 y0 x1 y1 : Nat} {a b l p q r s : Nat} (hT1 : Hid (∀ w, Calls Try.prog 31 #[iv lo hi] w fun e w' => e = .returned (iv x0 y0) ∧ Below w.heap.size w w')) (hT2 : Hid (∀ w, Calls Try.prog 31 #[iv l2 h2] w fun e w' => e = .returned (iv x1 y1) ∧ Below w.heap.size w w')) (hA : Hid (∀ w, Calls Try.prog 34 #[.float .f64 x0, .float .f64 x1] w fun e w' => e = .returned (.float .f64 p) ∧ w' = w)) (n1 : ∀ w, (Op.unary UnOp.neg (.float .f64 y0)).run Try.prog w = .ok (.float .f64 a) w) (n2 : ∀ w, (Op.unary UnOp.neg (.float .f64 y1)).run Try.prog w = .ok (.float .f64 b) w) (n3 : ∀ w, (Op.unary UnOp.neg (.float .f64 l)).run Try.prog w = .ok (.float .f64 q) w) (hB : Hid (∀ w, Calls Try.prog 34 #[.float .f64 a, .float .f64 b] w fun e w' => e = .returned (.float .f64 l) ∧ w' = w)) (hT3 : Hid (∀ w, Calls Try.prog 31 #[iv p q] w fun e w' => e = .returned (iv r s) ∧ Below w.heap.size w w')) (w : World) :
    Calls Try.prog 20 #[iv lo hi, iv l2 h2] w fun e w' => e = .returned (iv r s) ∧ Below w.heap.size w w' := by
  have hst := run_store_float
  have hq := run_eq_float
  unfold iv at *
  go_enter Try.func20, Try.ntmps20
  go_wp2_with fail
  refine ((unhide hT1) _).mono ?_
  rintro e w1 ⟨rfl, hbw1⟩
  obtain ⟨w1c00, w1z00, w1c01, w1z01⟩ := bN hbw1 (w.heap.size) (by simp <;> omega)
  obtain ⟨w1c10, w1z10, w1c11, w1z11⟩ := bN hbw1 (w.heap.size + 1) (by simp <;> omega)
  obtain ⟨w1c20, w1z20, w1c21, w1z21⟩ := bN hbw1 (w.heap.size + 2) (by simp <;> omega)
  simp [go_sem] at w1c00 w1z00 w1c01 w1z01 w1c10 w1z10 w1c11 w1z11 w1c20 w1z20 w1c21 w1z21
  have Sw1 := hbw1.size
  (try simp at Sw1)
  have Hw1 := hide (chainB (threeB w _ _ _) hbw1)
  clear hbw1
  go_wp2_with fail
  generalize hv1 : (w1.setCell ⟨w.heap.size, 0, none⟩ (.float .f64 x0)).setCell ⟨w.heap.size, 1, none⟩ (.float .f64 y0) = v1
  obtain ⟨v1c00, v1z00, v1c01, v1z01⟩ := bW hv1 w1c00 w1z00 w1c01 w1z01
  obtain ⟨v1c10, v1z10, v1c11, v1z11⟩ := bK hv1 (by omega) w1c10 w1z10 w1c11 w1z11
  obtain ⟨v1c20, v1z20, v1c21, v1z21⟩ := bK hv1 (by omega) w1c20 w1z20 w1c21 w1z21
  have Hv1 := hide (bB hv1 (unhide Hw1) (by omega))
  have Sv1 := bS hv1 (show w.heap.size + 3 ≤ w1.heap.size by omega)
  clear hv1
  refine ((unhide hT2) _).mono ?_
  rintro e w2 ⟨rfl, hbw2⟩
  obtain ⟨w2c00, w2z00, w2c01, w2z01⟩ := bO (Below.refl _ _) hbw2 (by omega) v1c00 v1z00 v1c01 v1z01
  obtain ⟨w2c10, w2z10, w2c11, w2z11⟩ := bO (Below.refl _ _) hbw2 (by omega) v1c10 v1z10 v1c11 v1z11
  obtain ⟨w2c20, w2z20, w2c21, w2z21⟩ := bO (Below.refl _ _) hbw2 (by omega) v1c20 v1z20 v1c21 v1z21
  have Sw2 := hbw2.size
  (try simp at Sw2)
  have Hw2 := hide (chainB (chainB (unhide Hv1) (Below.refl _ _)) hbw2)
  clear hbw2
  go_wp2_with fail
  generalize hv2 : (w2.setCell ⟨w.heap.size + 1, 0, none⟩ (.float .f64 x1)).setCell ⟨w.heap.size + 1, 1, none⟩ (.float .f64 y1) = v2
  obtain ⟨v2c10, v2z10, v2c11, v2z11⟩ := bW hv2 w2c10 w2z10 w2c11 w2z11
  obtain ⟨v2c00, v2z00, v2c01, v2z01⟩ := bK hv2 (by omega) w2c00 w2z00 w2c01 w2z01
  obtain ⟨v2c20, v2z20, v2c21, v2z21⟩ := bK hv2 (by omega) w2c20 w2z20 w2c21 w2z21
  have Hv2 := hide (bB hv2 (unhide Hw2) (by omega))
  have Sv2 := bS hv2 (show w.heap.size + 3 ≤ w2.heap.size by omega)
  clear hv2
  go_region_held3 (fun W => W.cell? ⟨w.heap.size, 0, none⟩ = some (.float .f64 x0) ∧ W.cell? ⟨w.heap.size, 1, none⟩ = some (.float .f64 y0) ∧ W.cell? ⟨w.heap.size + 1, 0, none⟩ = some (.float .f64 x1) ∧ W.cell? ⟨w.heap.size + 1, 1, none⟩ = some (.float .f64 y1)) (first | (go_keep; done) | exact ⟨keep_set w3c00 (by simp <;> omega), keep_set w3c01 (by simp <;> omega), keep_set w3c10 (by simp <;> omega), keep_set w3c11 (by simp <;> omega)⟩) (first | (go_at_call_of 34 (Value.float FloatKind.f64 x0); refine ((unhide hA) _).mono ?_; rintro e w0 ⟨rfl, rfl⟩) | (go_at_call_of 34 (Value.float FloatKind.f64 a); refine ((unhide hB) _).mono ?_; rintro e w0 ⟨rfl, rfl⟩) | (go_at_call 31; refine ((unhide hT3) _).mono ?_; rintro e w3 ⟨rfl, hbw3⟩; obtain ⟨w3c00, w3z00, w3c01, w3z01⟩ := bO ((Below.refl _ v2).drew) hbw3 (by omega) v2c00 v2z00 v2c01 v2z01; obtain ⟨w3c10, w3z10, w3c11, w3z11⟩ := bO ((Below.refl _ v2).drew) hbw3 (by omega) v2c10 v2z10 v2c11 v2z11; obtain ⟨w3c20, w3z20, w3c21, w3z21⟩ := bO ((Below.refl _ v2).drew) hbw3 (by omega) v2c20 v2z20 v2c21 v2z21; have Sw3 := hbw3.size; (try simp at Sw3); have Hw3 := hide (chainB (chainB (unhide Hv2) ((Below.refl _ v2).drew)) hbw3); clear hbw3))
  all_goals (go_wp2; refine bodyPost_ret (v := .agg #[.float .f64 r, .float .f64 s]) (by simp [results, Try.results20, go_sem, w3c20, w3c21]) rfl ⟨rfl, set2B (unhide Hw3) (by omega) _ _⟩)

end Go.Proofs.Ytibpnpigkbodeaa
