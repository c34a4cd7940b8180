/-
  Meet, Hull of the program, over letters. (Written by tools/genrel.py.)
-/
import Derived.Test.YtaekmlmehkkdfaaSpSet
import Derived.Test.YtaekmlmehkkdfaaMx
import Derived.Deep.RegionHeld3
namespace Go.Proofs.Ytaekmlmehkkdfaa
open Go.RowKit Flt
set_option linter.unusedVariables false      -- the cases share one head: not every case uses every name of it

set_option maxHeartbeats 8000000 in
theorem spMeet_core (lo hi l2 h2 : Nat) {x0 y0 x1 y1 : Nat} {p q r s : Nat} (hS1 : Hid (∀ w, Calls Try.prog 27 #[iv lo hi] w fun e w' => e = .returned (iv x0 y0) ∧ Below w.heap.size w w')) (hS2 : Hid (∀ w, Calls Try.prog 27 #[iv l2 h2] w fun e w' => e = .returned (iv x1 y1) ∧ Below w.heap.size w w')) (m1 : ∀ (ts : Array TypeId) (t : TypeId) (w : World), (Builtin.max_ ts t #[.float .f64 x0, .float .f64 x1]).run Try.prog w = .ok (.float .f64 p) w) (m2 : ∀ (ts : Array TypeId) (t : TypeId) (w : World), (Builtin.min_ ts t #[.float .f64 y0, .float .f64 y1]).run Try.prog w = .ok (.float .f64 q) w) (hS3 : Hid (∀ w, Calls Try.prog 27 #[iv p q] w fun e w' => e = .returned (iv r s) ∧ Below w.heap.size w w')) (w : World) :
    Calls Try.prog 17 #[iv lo hi, iv l2 h2] w fun e w' => e = .returned (iv r s) ∧ Below w.heap.size w w' := by
  have hst := run_store_float
  have hq := run_eq_float
  unfold iv at *
  go_enter Try.func17, Try.ntmps17
  go_wp2_with fail
  go_region_with (first | (go_at_call_of 27 (Value.float FloatKind.f64 lo); refine ((unhide hS1) _).mono ?_; rintro e w1 ⟨rfl, hbw1⟩; have w1c00 := hbw1.cell (p := ⟨w.heap.size, 0, none⟩) (by simp <;> omega); have w1z00 := hbw1.frozen (p := ⟨w.heap.size, 0, none⟩) (by simp <;> omega); have w1c01 := hbw1.cell (p := ⟨w.heap.size, 1, none⟩) (by simp <;> omega); have w1z01 := hbw1.frozen (p := ⟨w.heap.size, 1, none⟩) (by simp <;> omega); have w1c10 := hbw1.cell (p := ⟨w.heap.size + 1, 0, none⟩) (by simp <;> omega); have w1z10 := hbw1.frozen (p := ⟨w.heap.size + 1, 0, none⟩) (by simp <;> omega); have w1c11 := hbw1.cell (p := ⟨w.heap.size + 1, 1, none⟩) (by simp <;> omega); have w1z11 := hbw1.frozen (p := ⟨w.heap.size + 1, 1, none⟩) (by simp <;> omega); have w1c20 := hbw1.cell (p := ⟨w.heap.size + 2, 0, none⟩) (by simp <;> omega); have w1z20 := hbw1.frozen (p := ⟨w.heap.size + 2, 0, none⟩) (by simp <;> omega); have w1c21 := hbw1.cell (p := ⟨w.heap.size + 2, 1, none⟩) (by simp <;> omega); have w1z21 := hbw1.frozen (p := ⟨w.heap.size + 2, 1, none⟩) (by simp <;> omega); simp [go_sem] at w1c00 w1z00 w1c01 w1z01 w1c10 w1z10 w1c11 w1z11 w1c20 w1z20 w1c21 w1z21; have Sw1 := hbw1.size; (try simp at Sw1); have Hw1 := hide (chainB ((threeB w _ _ _).drew) hbw1); clear hbw1) | (go_at_call_of 27 (Value.float FloatKind.f64 l2); refine ((unhide hS2) _).mono ?_; rintro e w2 ⟨rfl, hbw2⟩; have w2c00 := old_cell (p := ⟨w.heap.size, 0, none⟩) (Below.refl _ _) hbw2 (by simp <;> omega) w1c00; have w2z00 := old_frozen (p := ⟨w.heap.size, 0, none⟩) (Below.refl _ _) hbw2 (by simp <;> omega) w1z00; have w2c01 := old_cell (p := ⟨w.heap.size, 1, none⟩) (Below.refl _ _) hbw2 (by simp <;> omega) w1c01; have w2z01 := old_frozen (p := ⟨w.heap.size, 1, none⟩) (Below.refl _ _) hbw2 (by simp <;> omega) w1z01; have w2c10 := old_cell (p := ⟨w.heap.size + 1, 0, none⟩) (Below.refl _ _) hbw2 (by simp <;> omega) w1c10; have w2z10 := old_frozen (p := ⟨w.heap.size + 1, 0, none⟩) (Below.refl _ _) hbw2 (by simp <;> omega) w1z10; have w2c11 := old_cell (p := ⟨w.heap.size + 1, 1, none⟩) (Below.refl _ _) hbw2 (by simp <;> omega) w1c11; have w2z11 := old_frozen (p := ⟨w.heap.size + 1, 1, none⟩) (Below.refl _ _) hbw2 (by simp <;> omega) w1z11; have w2c20 := old_cell (p := ⟨w.heap.size + 2, 0, none⟩) (Below.refl _ _) hbw2 (by simp <;> omega) w1c20; have w2z20 := old_frozen (p := ⟨w.heap.size + 2, 0, none⟩) (Below.refl _ _) hbw2 (by simp <;> omega) w1z20; have w2c21 := old_cell (p := ⟨w.heap.size + 2, 1, none⟩) (Below.refl _ _) hbw2 (by simp <;> omega) w1c21; have w2z21 := old_frozen (p := ⟨w.heap.size + 2, 1, none⟩) (Below.refl _ _) hbw2 (by simp <;> omega) w1z21; have Sw2 := hbw2.size; (try simp at Sw2); have Hw2 := hide (chainB (chainB (unhide Hw1) (Below.refl _ _)) hbw2); clear hbw2))
  all_goals (
    have v1c00 : ((w2.setCell ⟨w.heap.size, 0, none⟩ (.float .f64 x0)).setCell ⟨w.heap.size, 1, none⟩ (.float .f64 y0)).cell? ⟨w.heap.size, 0, none⟩ = some (.float .f64 x0) := by simp [go_sem, w2c00]
    have v1c01 : ((w2.setCell ⟨w.heap.size, 0, none⟩ (.float .f64 x0)).setCell ⟨w.heap.size, 1, none⟩ (.float .f64 y0)).cell? ⟨w.heap.size, 1, none⟩ = some (.float .f64 y0) := by simp [go_sem, w2c01]
    have v1z00 := set_frozen (x := .float .f64 x0) (y := .float .f64 y0) (g := w.heap.size) w2z00
    have v1z01 := set_frozen (x := .float .f64 x0) (y := .float .f64 y0) (g := w.heap.size) w2z01
    have v1c10 := keep_set (x := .float .f64 x0) (y := .float .f64 y0) (g := w.heap.size) w2c10 (by simp <;> omega)
    have v1z10 := set_frozen (x := .float .f64 x0) (y := .float .f64 y0) (g := w.heap.size) w2z10
    have v1c11 := keep_set (x := .float .f64 x0) (y := .float .f64 y0) (g := w.heap.size) w2c11 (by simp <;> omega)
    have v1z11 := set_frozen (x := .float .f64 x0) (y := .float .f64 y0) (g := w.heap.size) w2z11
    have v1c20 := keep_set (x := .float .f64 x0) (y := .float .f64 y0) (g := w.heap.size) w2c20 (by simp <;> omega)
    have v1z20 := set_frozen (x := .float .f64 x0) (y := .float .f64 y0) (g := w.heap.size) w2z20
    have v1c21 := keep_set (x := .float .f64 x0) (y := .float .f64 y0) (g := w.heap.size) w2c21 (by simp <;> omega)
    have v1z21 := set_frozen (x := .float .f64 x0) (y := .float .f64 y0) (g := w.heap.size) w2z21
    have Hv1 := hide (set2B (unhide Hw2) (g := w.heap.size) (by omega) (.float .f64 x0) (.float .f64 y0))
    have Sv1 : w.heap.size + 3 ≤ ((w2.setCell ⟨w.heap.size, 0, none⟩ (.float .f64 x0)).setCell ⟨w.heap.size, 1, none⟩ (.float .f64 y0)).heap.size := by simp; omega
    generalize ((w2.setCell ⟨w.heap.size, 0, none⟩ (.float .f64 x0)).setCell ⟨w.heap.size, 1, none⟩ (.float .f64 y0)) = v1 at *
    have v2c10 : ((v1.setCell ⟨w.heap.size + 1, 0, none⟩ (.float .f64 x1)).setCell ⟨w.heap.size + 1, 1, none⟩ (.float .f64 y1)).cell? ⟨w.heap.size + 1, 0, none⟩ = some (.float .f64 x1) := by simp [go_sem, v1c10]
    have v2c11 : ((v1.setCell ⟨w.heap.size + 1, 0, none⟩ (.float .f64 x1)).setCell ⟨w.heap.size + 1, 1, none⟩ (.float .f64 y1)).cell? ⟨w.heap.size + 1, 1, none⟩ = some (.float .f64 y1) := by simp [go_sem, v1c11]
    have v2z10 := set_frozen (x := .float .f64 x1) (y := .float .f64 y1) (g := w.heap.size + 1) v1z10
    have v2z11 := set_frozen (x := .float .f64 x1) (y := .float .f64 y1) (g := w.heap.size + 1) v1z11
    have v2c00 := keep_set (x := .float .f64 x1) (y := .float .f64 y1) (g := w.heap.size + 1) v1c00 (by simp <;> omega)
    have v2z00 := set_frozen (x := .float .f64 x1) (y := .float .f64 y1) (g := w.heap.size + 1) v1z00
    have v2c01 := keep_set (x := .float .f64 x1) (y := .float .f64 y1) (g := w.heap.size + 1) v1c01 (by simp <;> omega)
    have v2z01 := set_frozen (x := .float .f64 x1) (y := .float .f64 y1) (g := w.heap.size + 1) v1z01
    have v2c20 := keep_set (x := .float .f64 x1) (y := .float .f64 y1) (g := w.heap.size + 1) v1c20 (by simp <;> omega)
    have v2z20 := set_frozen (x := .float .f64 x1) (y := .float .f64 y1) (g := w.heap.size + 1) v1z20
    have v2c21 := keep_set (x := .float .f64 x1) (y := .float .f64 y1) (g := w.heap.size + 1) v1c21 (by simp <;> omega)
    have v2z21 := set_frozen (x := .float .f64 x1) (y := .float .f64 y1) (g := w.heap.size + 1) v1z21
    have Hv2 := hide (set2B (unhide Hv1) (g := w.heap.size + 1) (by omega) (.float .f64 x1) (.float .f64 y1))
    have Sv2 : w.heap.size + 3 ≤ ((v1.setCell ⟨w.heap.size + 1, 0, none⟩ (.float .f64 x1)).setCell ⟨w.heap.size + 1, 1, none⟩ (.float .f64 y1)).heap.size := by simp; omega
    generalize ((v1.setCell ⟨w.heap.size + 1, 0, none⟩ (.float .f64 x1)).setCell ⟨w.heap.size + 1, 1, none⟩ (.float .f64 y1)) = v2 at *
    go_wp2_with fail
    refine ((unhide hS3) _).mono ?_
    rintro e w3 ⟨rfl, hbw3⟩
    have w3c00 := old_cell (p := ⟨w.heap.size, 0, none⟩) (Below.refl _ _) hbw3 (by simp <;> omega) v2c00
    have w3z00 := old_frozen (p := ⟨w.heap.size, 0, none⟩) (Below.refl _ _) hbw3 (by simp <;> omega) v2z00
    have w3c01 := old_cell (p := ⟨w.heap.size, 1, none⟩) (Below.refl _ _) hbw3 (by simp <;> omega) v2c01
    have w3z01 := old_frozen (p := ⟨w.heap.size, 1, none⟩) (Below.refl _ _) hbw3 (by simp <;> omega) v2z01
    have w3c10 := old_cell (p := ⟨w.heap.size + 1, 0, none⟩) (Below.refl _ _) hbw3 (by simp <;> omega) v2c10
    have w3z10 := old_frozen (p := ⟨w.heap.size + 1, 0, none⟩) (Below.refl _ _) hbw3 (by simp <;> omega) v2z10
    have w3c11 := old_cell (p := ⟨w.heap.size + 1, 1, none⟩) (Below.refl _ _) hbw3 (by simp <;> omega) v2c11
    have w3z11 := old_frozen (p := ⟨w.heap.size + 1, 1, none⟩) (Below.refl _ _) hbw3 (by simp <;> omega) v2z11
    have w3c20 := old_cell (p := ⟨w.heap.size + 2, 0, none⟩) (Below.refl _ _) hbw3 (by simp <;> omega) v2c20
    have w3z20 := old_frozen (p := ⟨w.heap.size + 2, 0, none⟩) (Below.refl _ _) hbw3 (by simp <;> omega) v2z20
    have w3c21 := old_cell (p := ⟨w.heap.size + 2, 1, none⟩) (Below.refl _ _) hbw3 (by simp <;> omega) v2c21
    have w3z21 := old_frozen (p := ⟨w.heap.size + 2, 1, none⟩) (Below.refl _ _) hbw3 (by simp <;> omega) v2z21
    have Sw3 := hbw3.size
    (try simp at Sw3)
    have Hw3 := hide (chainB (chainB (unhide Hv2) (Below.refl _ _)) hbw3)
    clear hbw3
    go_wp2_with fail
    refine bodyPost_ret (v := .agg #[.float .f64 r, .float .f64 s]) (by simp [results, Try.results17, go_sem, w3c20, w3c21]) rfl ⟨rfl, set2B (unhide Hw3) (by omega) _ _⟩)

set_option maxHeartbeats 8000000 in
theorem spHull_core (lo hi l2 h2 : Nat) {x0 y0 x1 y1 : Nat} {p q : Nat} (hS1 : Hid (∀ w, Calls Try.prog 27 #[iv lo hi] w fun e w' => e = .returned (iv x0 y0) ∧ Below w.heap.size w w')) (hS2 : Hid (∀ w, Calls Try.prog 27 #[iv l2 h2] w fun e w' => e = .returned (iv x1 y1) ∧ Below w.heap.size w w')) (m1 : ∀ (ts : Array TypeId) (t : TypeId) (w : World), (Builtin.min_ ts t #[.float .f64 x0, .float .f64 x1]).run Try.prog w = .ok (.float .f64 p) w) (m2 : ∀ (ts : Array TypeId) (t : TypeId) (w : World), (Builtin.max_ ts t #[.float .f64 y0, .float .f64 y1]).run Try.prog w = .ok (.float .f64 q) w) (w : World) :
    Calls Try.prog 19 #[iv lo hi, iv l2 h2] w fun e w' => e = .returned (iv p q) ∧ Below w.heap.size w w' := by
  have hst := run_store_float
  have hq := run_eq_float
  unfold iv at *
  go_enter Try.func19, Try.ntmps19
  go_wp2_with fail
  go_region_with (first | (go_at_call_of 27 (Value.float FloatKind.f64 lo); refine ((unhide hS1) _).mono ?_; rintro e w1 ⟨rfl, hbw1⟩; have w1c00 := hbw1.cell (p := ⟨w.heap.size, 0, none⟩) (by simp <;> omega); have w1z00 := hbw1.frozen (p := ⟨w.heap.size, 0, none⟩) (by simp <;> omega); have w1c01 := hbw1.cell (p := ⟨w.heap.size, 1, none⟩) (by simp <;> omega); have w1z01 := hbw1.frozen (p := ⟨w.heap.size, 1, none⟩) (by simp <;> omega); have w1c10 := hbw1.cell (p := ⟨w.heap.size + 1, 0, none⟩) (by simp <;> omega); have w1z10 := hbw1.frozen (p := ⟨w.heap.size + 1, 0, none⟩) (by simp <;> omega); have w1c11 := hbw1.cell (p := ⟨w.heap.size + 1, 1, none⟩) (by simp <;> omega); have w1z11 := hbw1.frozen (p := ⟨w.heap.size + 1, 1, none⟩) (by simp <;> omega); have w1c20 := hbw1.cell (p := ⟨w.heap.size + 2, 0, none⟩) (by simp <;> omega); have w1z20 := hbw1.frozen (p := ⟨w.heap.size + 2, 0, none⟩) (by simp <;> omega); have w1c21 := hbw1.cell (p := ⟨w.heap.size + 2, 1, none⟩) (by simp <;> omega); have w1z21 := hbw1.frozen (p := ⟨w.heap.size + 2, 1, none⟩) (by simp <;> omega); simp [go_sem] at w1c00 w1z00 w1c01 w1z01 w1c10 w1z10 w1c11 w1z11 w1c20 w1z20 w1c21 w1z21; have Sw1 := hbw1.size; (try simp at Sw1); have Hw1 := hide (chainB ((threeB w _ _ _).drew) hbw1); clear hbw1) | (go_at_call_of 27 (Value.float FloatKind.f64 l2); refine ((unhide hS2) _).mono ?_; rintro e w2 ⟨rfl, hbw2⟩; have w2c00 := old_cell (p := ⟨w.heap.size, 0, none⟩) (Below.refl _ _) hbw2 (by simp <;> omega) w1c00; have w2z00 := old_frozen (p := ⟨w.heap.size, 0, none⟩) (Below.refl _ _) hbw2 (by simp <;> omega) w1z00; have w2c01 := old_cell (p := ⟨w.heap.size, 1, none⟩) (Below.refl _ _) hbw2 (by simp <;> omega) w1c01; have w2z01 := old_frozen (p := ⟨w.heap.size, 1, none⟩) (Below.refl _ _) hbw2 (by simp <;> omega) w1z01; have w2c10 := old_cell (p := ⟨w.heap.size + 1, 0, none⟩) (Below.refl _ _) hbw2 (by simp <;> omega) w1c10; have w2z10 := old_frozen (p := ⟨w.heap.size + 1, 0, none⟩) (Below.refl _ _) hbw2 (by simp <;> omega) w1z10; have w2c11 := old_cell (p := ⟨w.heap.size + 1, 1, none⟩) (Below.refl _ _) hbw2 (by simp <;> omega) w1c11; have w2z11 := old_frozen (p := ⟨w.heap.size + 1, 1, none⟩) (Below.refl _ _) hbw2 (by simp <;> omega) w1z11; have w2c20 := old_cell (p := ⟨w.heap.size + 2, 0, none⟩) (Below.refl _ _) hbw2 (by simp <;> omega) w1c20; have w2z20 := old_frozen (p := ⟨w.heap.size + 2, 0, none⟩) (Below.refl _ _) hbw2 (by simp <;> omega) w1z20; have w2c21 := old_cell (p := ⟨w.heap.size + 2, 1, none⟩) (Below.refl _ _) hbw2 (by simp <;> omega) w1c21; have w2z21 := old_frozen (p := ⟨w.heap.size + 2, 1, none⟩) (Below.refl _ _) hbw2 (by simp <;> omega) w1z21; have Sw2 := hbw2.size; (try simp at Sw2); have Hw2 := hide (chainB (chainB (unhide Hw1) (Below.refl _ _)) hbw2); clear hbw2))
  all_goals (
    have v1c00 : ((w2.setCell ⟨w.heap.size, 0, none⟩ (.float .f64 x0)).setCell ⟨w.heap.size, 1, none⟩ (.float .f64 y0)).cell? ⟨w.heap.size, 0, none⟩ = some (.float .f64 x0) := by simp [go_sem, w2c00]
    have v1c01 : ((w2.setCell ⟨w.heap.size, 0, none⟩ (.float .f64 x0)).setCell ⟨w.heap.size, 1, none⟩ (.float .f64 y0)).cell? ⟨w.heap.size, 1, none⟩ = some (.float .f64 y0) := by simp [go_sem, w2c01]
    have v1z00 := set_frozen (x := .float .f64 x0) (y := .float .f64 y0) (g := w.heap.size) w2z00
    have v1z01 := set_frozen (x := .float .f64 x0) (y := .float .f64 y0) (g := w.heap.size) w2z01
    have v1c10 := keep_set (x := .float .f64 x0) (y := .float .f64 y0) (g := w.heap.size) w2c10 (by simp <;> omega)
    have v1z10 := set_frozen (x := .float .f64 x0) (y := .float .f64 y0) (g := w.heap.size) w2z10
    have v1c11 := keep_set (x := .float .f64 x0) (y := .float .f64 y0) (g := w.heap.size) w2c11 (by simp <;> omega)
    have v1z11 := set_frozen (x := .float .f64 x0) (y := .float .f64 y0) (g := w.heap.size) w2z11
    have v1c20 := keep_set (x := .float .f64 x0) (y := .float .f64 y0) (g := w.heap.size) w2c20 (by simp <;> omega)
    have v1z20 := set_frozen (x := .float .f64 x0) (y := .float .f64 y0) (g := w.heap.size) w2z20
    have v1c21 := keep_set (x := .float .f64 x0) (y := .float .f64 y0) (g := w.heap.size) w2c21 (by simp <;> omega)
    have v1z21 := set_frozen (x := .float .f64 x0) (y := .float .f64 y0) (g := w.heap.size) w2z21
    have Hv1 := hide (set2B (unhide Hw2) (g := w.heap.size) (by omega) (.float .f64 x0) (.float .f64 y0))
    have Sv1 : w.heap.size + 3 ≤ ((w2.setCell ⟨w.heap.size, 0, none⟩ (.float .f64 x0)).setCell ⟨w.heap.size, 1, none⟩ (.float .f64 y0)).heap.size := by simp; omega
    generalize ((w2.setCell ⟨w.heap.size, 0, none⟩ (.float .f64 x0)).setCell ⟨w.heap.size, 1, none⟩ (.float .f64 y0)) = v1 at *
    have v2c10 : ((v1.setCell ⟨w.heap.size + 1, 0, none⟩ (.float .f64 x1)).setCell ⟨w.heap.size + 1, 1, none⟩ (.float .f64 y1)).cell? ⟨w.heap.size + 1, 0, none⟩ = some (.float .f64 x1) := by simp [go_sem, v1c10]
    have v2c11 : ((v1.setCell ⟨w.heap.size + 1, 0, none⟩ (.float .f64 x1)).setCell ⟨w.heap.size + 1, 1, none⟩ (.float .f64 y1)).cell? ⟨w.heap.size + 1, 1, none⟩ = some (.float .f64 y1) := by simp [go_sem, v1c11]
    have v2z10 := set_frozen (x := .float .f64 x1) (y := .float .f64 y1) (g := w.heap.size + 1) v1z10
    have v2z11 := set_frozen (x := .float .f64 x1) (y := .float .f64 y1) (g := w.heap.size + 1) v1z11
    have v2c00 := keep_set (x := .float .f64 x1) (y := .float .f64 y1) (g := w.heap.size + 1) v1c00 (by simp <;> omega)
    have v2z00 := set_frozen (x := .float .f64 x1) (y := .float .f64 y1) (g := w.heap.size + 1) v1z00
    have v2c01 := keep_set (x := .float .f64 x1) (y := .float .f64 y1) (g := w.heap.size + 1) v1c01 (by simp <;> omega)
    have v2z01 := set_frozen (x := .float .f64 x1) (y := .float .f64 y1) (g := w.heap.size + 1) v1z01
    have v2c20 := keep_set (x := .float .f64 x1) (y := .float .f64 y1) (g := w.heap.size + 1) v1c20 (by simp <;> omega)
    have v2z20 := set_frozen (x := .float .f64 x1) (y := .float .f64 y1) (g := w.heap.size + 1) v1z20
    have v2c21 := keep_set (x := .float .f64 x1) (y := .float .f64 y1) (g := w.heap.size + 1) v1c21 (by simp <;> omega)
    have v2z21 := set_frozen (x := .float .f64 x1) (y := .float .f64 y1) (g := w.heap.size + 1) v1z21
    have Hv2 := hide (set2B (unhide Hv1) (g := w.heap.size + 1) (by omega) (.float .f64 x1) (.float .f64 y1))
    have Sv2 : w.heap.size + 3 ≤ ((v1.setCell ⟨w.heap.size + 1, 0, none⟩ (.float .f64 x1)).setCell ⟨w.heap.size + 1, 1, none⟩ (.float .f64 y1)).heap.size := by simp; omega
    generalize ((v1.setCell ⟨w.heap.size + 1, 0, none⟩ (.float .f64 x1)).setCell ⟨w.heap.size + 1, 1, none⟩ (.float .f64 y1)) = v2 at *
    go_wp2_with fail
    refine bodyPost_ret (v := .agg #[.float .f64 p, .float .f64 q]) (by simp [results, Try.results19, go_sem, v2c20, v2c21]) rfl ⟨rfl, set2B (unhide Hv2) (by omega) _ _⟩)

end Go.Proofs.Ytaekmlmehkkdfaa
