/-
  Is of the program, over letters: Subset, Interior. (Written by tools/genrel.py.)
-/
import Derived.Test.YtaekmlmehkkdfaaSpSet
import Derived.Test.YtaekmlmehkkdfaaMx
import Derived.Deep.RegionHeld3
namespace Go.Proofs.Ytaekmlmehkkdfaa
open Go.RowKit Flt
set_option linter.unusedVariables false      -- the cases share one head: not every case uses every name of it

set_option maxHeartbeats 8000000 in
theorem spIs_1 (lo hi l2 h2 : Nat) {x0 y0 x1 y1 : Nat} {m n : Nat} {b1 b2 : Bool} (hS1 : Hid (∀ w, Calls Try.prog 27 #[iv lo hi] w fun e w' => e = .returned (iv x0 y0) ∧ Below w.heap.size w w')) (hS2 : Hid (∀ w, Calls Try.prog 27 #[iv l2 h2] w fun e w' => e = .returned (iv x1 y1) ∧ Below w.heap.size w w')) (hM : Hid (∀ w, Calls Try.prog 17 #[iv x0 y0, iv x1 y1] w fun e w' => e = .returned (iv m n) ∧ Below w.heap.size w w')) (t1 : (FloatKind.f64.format.order m x0 == some .eq) = b1) (t2 : (FloatKind.f64.format.order n y0 == some .eq) = b2) (w : World) :
    Calls Try.prog 15 #[.int .i64 1, iv lo hi, iv l2 h2] w fun e w' => e = .returned (.bool (b1 && b2)) ∧ Below w.heap.size w w' := by
  have hst := run_store_float
  have hq := run_eq_float
  unfold iv at *
  go_enter Try.func15, Try.ntmps15
  go_wp2_with fail
  go_region_with (first | (go_at_call_of 27 (Value.float FloatKind.f64 lo); refine ((unhide hS1) _).mono ?_; rintro e w1 ⟨rfl, hbw1⟩; have w1c00 := hbw1.cell (p := ⟨w.heap.size, 0, none⟩) (by simp <;> omega); have w1z00 := hbw1.frozen (p := ⟨w.heap.size, 0, none⟩) (by simp <;> omega); have w1c01 := hbw1.cell (p := ⟨w.heap.size, 1, none⟩) (by simp <;> omega); have w1z01 := hbw1.frozen (p := ⟨w.heap.size, 1, none⟩) (by simp <;> omega); have w1c10 := hbw1.cell (p := ⟨w.heap.size + 1, 0, none⟩) (by simp <;> omega); have w1z10 := hbw1.frozen (p := ⟨w.heap.size + 1, 0, none⟩) (by simp <;> omega); have w1c11 := hbw1.cell (p := ⟨w.heap.size + 1, 1, none⟩) (by simp <;> omega); have w1z11 := hbw1.frozen (p := ⟨w.heap.size + 1, 1, none⟩) (by simp <;> omega); simp [go_sem] at w1c00 w1z00 w1c01 w1z01 w1c10 w1z10 w1c11 w1z11; have Sw1 := hbw1.size; (try simp at Sw1); have Hw1 := hide (chainB ((twoB w _ _).drew) hbw1); clear hbw1) | (go_at_call_of 27 (Value.float FloatKind.f64 l2); refine ((unhide hS2) _).mono ?_; rintro e w2 ⟨rfl, hbw2⟩; have w2c00 := old_cell (p := ⟨w.heap.size, 0, none⟩) (Below.refl _ _) hbw2 (by simp <;> omega) w1c00; have w2z00 := old_frozen (p := ⟨w.heap.size, 0, none⟩) (Below.refl _ _) hbw2 (by simp <;> omega) w1z00; have w2c01 := old_cell (p := ⟨w.heap.size, 1, none⟩) (Below.refl _ _) hbw2 (by simp <;> omega) w1c01; have w2z01 := old_frozen (p := ⟨w.heap.size, 1, none⟩) (Below.refl _ _) hbw2 (by simp <;> omega) w1z01; have w2c10 := old_cell (p := ⟨w.heap.size + 1, 0, none⟩) (Below.refl _ _) hbw2 (by simp <;> omega) w1c10; have w2z10 := old_frozen (p := ⟨w.heap.size + 1, 0, none⟩) (Below.refl _ _) hbw2 (by simp <;> omega) w1z10; have w2c11 := old_cell (p := ⟨w.heap.size + 1, 1, none⟩) (Below.refl _ _) hbw2 (by simp <;> omega) w1c11; have w2z11 := old_frozen (p := ⟨w.heap.size + 1, 1, none⟩) (Below.refl _ _) hbw2 (by simp <;> omega) w1z11; have Sw2 := hbw2.size; (try simp at Sw2); have Hw2 := hide (chainB (chainB (unhide Hw1) (Below.refl _ _)) hbw2); clear hbw2))
  all_goals (
    have v1c00 : ((w2.setCell ⟨w.heap.size, 0, none⟩ (.float .f64 x0)).setCell ⟨w.heap.size, 1, none⟩ (.float .f64 y0)).cell? ⟨w.heap.size, 0, none⟩ = some (.float .f64 x0) := by simp [go_sem, w2c00]
    have v1c01 : ((w2.setCell ⟨w.heap.size, 0, none⟩ (.float .f64 x0)).setCell ⟨w.heap.size, 1, none⟩ (.float .f64 y0)).cell? ⟨w.heap.size, 1, none⟩ = some (.float .f64 y0) := by simp [go_sem, w2c01]
    have v1z00 := set_frozen (x := .float .f64 x0) (y := .float .f64 y0) (g := w.heap.size) w2z00
    have v1z01 := set_frozen (x := .float .f64 x0) (y := .float .f64 y0) (g := w.heap.size) w2z01
    have v1c10 := keep_set (x := .float .f64 x0) (y := .float .f64 y0) (g := w.heap.size) w2c10 (by simp <;> omega)
    have v1z10 := set_frozen (x := .float .f64 x0) (y := .float .f64 y0) (g := w.heap.size) w2z10
    have v1c11 := keep_set (x := .float .f64 x0) (y := .float .f64 y0) (g := w.heap.size) w2c11 (by simp <;> omega)
    have v1z11 := set_frozen (x := .float .f64 x0) (y := .float .f64 y0) (g := w.heap.size) w2z11
    have Hv1 := hide (set2B (unhide Hw2) (g := w.heap.size) (by omega) (.float .f64 x0) (.float .f64 y0))
    have Sv1 : w.heap.size + 2 ≤ ((w2.setCell ⟨w.heap.size, 0, none⟩ (.float .f64 x0)).setCell ⟨w.heap.size, 1, none⟩ (.float .f64 y0)).heap.size := by simp; omega
    generalize ((w2.setCell ⟨w.heap.size, 0, none⟩ (.float .f64 x0)).setCell ⟨w.heap.size, 1, none⟩ (.float .f64 y0)) = v1 at *
    have v2c10 : ((v1.setCell ⟨w.heap.size + 1, 0, none⟩ (.float .f64 x1)).setCell ⟨w.heap.size + 1, 1, none⟩ (.float .f64 y1)).cell? ⟨w.heap.size + 1, 0, none⟩ = some (.float .f64 x1) := by simp [go_sem, v1c10]
    have v2c11 : ((v1.setCell ⟨w.heap.size + 1, 0, none⟩ (.float .f64 x1)).setCell ⟨w.heap.size + 1, 1, none⟩ (.float .f64 y1)).cell? ⟨w.heap.size + 1, 1, none⟩ = some (.float .f64 y1) := by simp [go_sem, v1c11]
    have v2z10 := set_frozen (x := .float .f64 x1) (y := .float .f64 y1) (g := w.heap.size + 1) v1z10
    have v2z11 := set_frozen (x := .float .f64 x1) (y := .float .f64 y1) (g := w.heap.size + 1) v1z11
    have v2c00 := keep_set (x := .float .f64 x1) (y := .float .f64 y1) (g := w.heap.size + 1) v1c00 (by simp <;> omega)
    have v2z00 := set_frozen (x := .float .f64 x1) (y := .float .f64 y1) (g := w.heap.size + 1) v1z00
    have v2c01 := keep_set (x := .float .f64 x1) (y := .float .f64 y1) (g := w.heap.size + 1) v1c01 (by simp <;> omega)
    have v2z01 := set_frozen (x := .float .f64 x1) (y := .float .f64 y1) (g := w.heap.size + 1) v1z01
    have Hv2 := hide (set2B (unhide Hv1) (g := w.heap.size + 1) (by omega) (.float .f64 x1) (.float .f64 y1))
    have Sv2 : w.heap.size + 2 ≤ ((v1.setCell ⟨w.heap.size + 1, 0, none⟩ (.float .f64 x1)).setCell ⟨w.heap.size + 1, 1, none⟩ (.float .f64 y1)).heap.size := by simp; omega
    generalize ((v1.setCell ⟨w.heap.size + 1, 0, none⟩ (.float .f64 x1)).setCell ⟨w.heap.size + 1, 1, none⟩ (.float .f64 y1)) = v2 at *
    go_wp2_with fail
    cases b1 <;> cases b2
    all_goals (
      go_region_held3 (fun W => W.cell? ⟨w.heap.size, 0, none⟩ = some (.float .f64 x0) ∧ W.cell? ⟨w.heap.size, 1, none⟩ = some (.float .f64 y0) ∧ W.cell? ⟨w.heap.size + 1, 0, none⟩ = some (.float .f64 x1) ∧ W.cell? ⟨w.heap.size + 1, 1, none⟩ = some (.float .f64 y1)) (first | (go_keep; done) | exact ⟨w3c00, w3c01, w3c10, w3c11⟩) (first | (go_at_call 17; refine ((unhide hM) _).mono ?_; rintro e w3 ⟨rfl, hbw3⟩; have w3c00 := old_cell (p := ⟨w.heap.size, 0, none⟩) ((Below.refl _ v2).drew) hbw3 (by simp <;> omega) v2c00; have w3z00 := old_frozen (p := ⟨w.heap.size, 0, none⟩) ((Below.refl _ v2).drew) hbw3 (by simp <;> omega) v2z00; have w3c01 := old_cell (p := ⟨w.heap.size, 1, none⟩) ((Below.refl _ v2).drew) hbw3 (by simp <;> omega) v2c01; have w3z01 := old_frozen (p := ⟨w.heap.size, 1, none⟩) ((Below.refl _ v2).drew) hbw3 (by simp <;> omega) v2z01; have w3c10 := old_cell (p := ⟨w.heap.size + 1, 0, none⟩) ((Below.refl _ v2).drew) hbw3 (by simp <;> omega) v2c10; have w3z10 := old_frozen (p := ⟨w.heap.size + 1, 0, none⟩) ((Below.refl _ v2).drew) hbw3 (by simp <;> omega) v2z10; have w3c11 := old_cell (p := ⟨w.heap.size + 1, 1, none⟩) ((Below.refl _ v2).drew) hbw3 (by simp <;> omega) v2c11; have w3z11 := old_frozen (p := ⟨w.heap.size + 1, 1, none⟩) ((Below.refl _ v2).drew) hbw3 (by simp <;> omega) v2z11; have Sw3 := hbw3.size; (try simp at Sw3); have Hw3 := hide (chainB (chainB (unhide Hv2) ((Below.refl _ v2).drew)) hbw3); clear hbw3))
      all_goals (go_wp2; go_ret; exact ⟨rfl, unhide Hw3⟩)))

set_option maxHeartbeats 8000000 in
theorem spIs_2e (lo hi l2 h2 : Nat) {x0 y0 x1 y1 : Nat} {z1 z2 : Nat} (hS1 : Hid (∀ w, Calls Try.prog 27 #[iv lo hi] w fun e w' => e = .returned (iv x0 y0) ∧ Below w.heap.size w w')) (hS2 : Hid (∀ w, Calls Try.prog 27 #[iv l2 h2] w fun e w' => e = .returned (iv x1 y1) ∧ Below w.heap.size w w')) (hE : Hid (∀ w, Calls Try.prog 28 #[] w fun e w' => e = .returned (iv z1 z2) ∧ Below w.heap.size w w')) (t1 : (FloatKind.f64.format.order x0 z1 == some .eq) = true) (t2 : (FloatKind.f64.format.order y0 z2 == some .eq) = true) (w : World) :
    Calls Try.prog 15 #[.int .i64 2, iv lo hi, iv l2 h2] w fun e w' => e = .returned (.bool true) ∧ Below w.heap.size w w' := by
  have hst := run_store_float
  have hq := run_eq_float
  unfold iv at *
  go_enter Try.func15, Try.ntmps15
  go_wp2_with fail
  go_region_with (first | (go_at_call_of 27 (Value.float FloatKind.f64 lo); refine ((unhide hS1) _).mono ?_; rintro e w1 ⟨rfl, hbw1⟩; have w1c00 := hbw1.cell (p := ⟨w.heap.size, 0, none⟩) (by simp <;> omega); have w1z00 := hbw1.frozen (p := ⟨w.heap.size, 0, none⟩) (by simp <;> omega); have w1c01 := hbw1.cell (p := ⟨w.heap.size, 1, none⟩) (by simp <;> omega); have w1z01 := hbw1.frozen (p := ⟨w.heap.size, 1, none⟩) (by simp <;> omega); have w1c10 := hbw1.cell (p := ⟨w.heap.size + 1, 0, none⟩) (by simp <;> omega); have w1z10 := hbw1.frozen (p := ⟨w.heap.size + 1, 0, none⟩) (by simp <;> omega); have w1c11 := hbw1.cell (p := ⟨w.heap.size + 1, 1, none⟩) (by simp <;> omega); have w1z11 := hbw1.frozen (p := ⟨w.heap.size + 1, 1, none⟩) (by simp <;> omega); simp [go_sem] at w1c00 w1z00 w1c01 w1z01 w1c10 w1z10 w1c11 w1z11; have Sw1 := hbw1.size; (try simp at Sw1); have Hw1 := hide (chainB ((twoB w _ _).drew) hbw1); clear hbw1) | (go_at_call_of 27 (Value.float FloatKind.f64 l2); refine ((unhide hS2) _).mono ?_; rintro e w2 ⟨rfl, hbw2⟩; have w2c00 := old_cell (p := ⟨w.heap.size, 0, none⟩) (Below.refl _ _) hbw2 (by simp <;> omega) w1c00; have w2z00 := old_frozen (p := ⟨w.heap.size, 0, none⟩) (Below.refl _ _) hbw2 (by simp <;> omega) w1z00; have w2c01 := old_cell (p := ⟨w.heap.size, 1, none⟩) (Below.refl _ _) hbw2 (by simp <;> omega) w1c01; have w2z01 := old_frozen (p := ⟨w.heap.size, 1, none⟩) (Below.refl _ _) hbw2 (by simp <;> omega) w1z01; have w2c10 := old_cell (p := ⟨w.heap.size + 1, 0, none⟩) (Below.refl _ _) hbw2 (by simp <;> omega) w1c10; have w2z10 := old_frozen (p := ⟨w.heap.size + 1, 0, none⟩) (Below.refl _ _) hbw2 (by simp <;> omega) w1z10; have w2c11 := old_cell (p := ⟨w.heap.size + 1, 1, none⟩) (Below.refl _ _) hbw2 (by simp <;> omega) w1c11; have w2z11 := old_frozen (p := ⟨w.heap.size + 1, 1, none⟩) (Below.refl _ _) hbw2 (by simp <;> omega) w1z11; have Sw2 := hbw2.size; (try simp at Sw2); have Hw2 := hide (chainB (chainB (unhide Hw1) (Below.refl _ _)) hbw2); clear hbw2))
  all_goals (
    have v1c00 : ((w2.setCell ⟨w.heap.size, 0, none⟩ (.float .f64 x0)).setCell ⟨w.heap.size, 1, none⟩ (.float .f64 y0)).cell? ⟨w.heap.size, 0, none⟩ = some (.float .f64 x0) := by simp [go_sem, w2c00]
    have v1c01 : ((w2.setCell ⟨w.heap.size, 0, none⟩ (.float .f64 x0)).setCell ⟨w.heap.size, 1, none⟩ (.float .f64 y0)).cell? ⟨w.heap.size, 1, none⟩ = some (.float .f64 y0) := by simp [go_sem, w2c01]
    have v1z00 := set_frozen (x := .float .f64 x0) (y := .float .f64 y0) (g := w.heap.size) w2z00
    have v1z01 := set_frozen (x := .float .f64 x0) (y := .float .f64 y0) (g := w.heap.size) w2z01
    have v1c10 := keep_set (x := .float .f64 x0) (y := .float .f64 y0) (g := w.heap.size) w2c10 (by simp <;> omega)
    have v1z10 := set_frozen (x := .float .f64 x0) (y := .float .f64 y0) (g := w.heap.size) w2z10
    have v1c11 := keep_set (x := .float .f64 x0) (y := .float .f64 y0) (g := w.heap.size) w2c11 (by simp <;> omega)
    have v1z11 := set_frozen (x := .float .f64 x0) (y := .float .f64 y0) (g := w.heap.size) w2z11
    have Hv1 := hide (set2B (unhide Hw2) (g := w.heap.size) (by omega) (.float .f64 x0) (.float .f64 y0))
    have Sv1 : w.heap.size + 2 ≤ ((w2.setCell ⟨w.heap.size, 0, none⟩ (.float .f64 x0)).setCell ⟨w.heap.size, 1, none⟩ (.float .f64 y0)).heap.size := by simp; omega
    generalize ((w2.setCell ⟨w.heap.size, 0, none⟩ (.float .f64 x0)).setCell ⟨w.heap.size, 1, none⟩ (.float .f64 y0)) = v1 at *
    have v2c10 : ((v1.setCell ⟨w.heap.size + 1, 0, none⟩ (.float .f64 x1)).setCell ⟨w.heap.size + 1, 1, none⟩ (.float .f64 y1)).cell? ⟨w.heap.size + 1, 0, none⟩ = some (.float .f64 x1) := by simp [go_sem, v1c10]
    have v2c11 : ((v1.setCell ⟨w.heap.size + 1, 0, none⟩ (.float .f64 x1)).setCell ⟨w.heap.size + 1, 1, none⟩ (.float .f64 y1)).cell? ⟨w.heap.size + 1, 1, none⟩ = some (.float .f64 y1) := by simp [go_sem, v1c11]
    have v2z10 := set_frozen (x := .float .f64 x1) (y := .float .f64 y1) (g := w.heap.size + 1) v1z10
    have v2z11 := set_frozen (x := .float .f64 x1) (y := .float .f64 y1) (g := w.heap.size + 1) v1z11
    have v2c00 := keep_set (x := .float .f64 x1) (y := .float .f64 y1) (g := w.heap.size + 1) v1c00 (by simp <;> omega)
    have v2z00 := set_frozen (x := .float .f64 x1) (y := .float .f64 y1) (g := w.heap.size + 1) v1z00
    have v2c01 := keep_set (x := .float .f64 x1) (y := .float .f64 y1) (g := w.heap.size + 1) v1c01 (by simp <;> omega)
    have v2z01 := set_frozen (x := .float .f64 x1) (y := .float .f64 y1) (g := w.heap.size + 1) v1z01
    have Hv2 := hide (set2B (unhide Hv1) (g := w.heap.size + 1) (by omega) (.float .f64 x1) (.float .f64 y1))
    have Sv2 : w.heap.size + 2 ≤ ((v1.setCell ⟨w.heap.size + 1, 0, none⟩ (.float .f64 x1)).setCell ⟨w.heap.size + 1, 1, none⟩ (.float .f64 y1)).heap.size := by simp; omega
    generalize ((v1.setCell ⟨w.heap.size + 1, 0, none⟩ (.float .f64 x1)).setCell ⟨w.heap.size + 1, 1, none⟩ (.float .f64 y1)) = v2 at *
    go_wp2_with fail
    go_region_with (first | (go_at_call 28; refine ((unhide hE) _).mono ?_; rintro e w3 ⟨rfl, hbw3⟩; have w3c00 := old_cell (p := ⟨w.heap.size, 0, none⟩) ((Below.refl _ v2).drew) hbw3 (by simp <;> omega) v2c00; have w3z00 := old_frozen (p := ⟨w.heap.size, 0, none⟩) ((Below.refl _ v2).drew) hbw3 (by simp <;> omega) v2z00; have w3c01 := old_cell (p := ⟨w.heap.size, 1, none⟩) ((Below.refl _ v2).drew) hbw3 (by simp <;> omega) v2c01; have w3z01 := old_frozen (p := ⟨w.heap.size, 1, none⟩) ((Below.refl _ v2).drew) hbw3 (by simp <;> omega) v2z01; have w3c10 := old_cell (p := ⟨w.heap.size + 1, 0, none⟩) ((Below.refl _ v2).drew) hbw3 (by simp <;> omega) v2c10; have w3z10 := old_frozen (p := ⟨w.heap.size + 1, 0, none⟩) ((Below.refl _ v2).drew) hbw3 (by simp <;> omega) v2z10; have w3c11 := old_cell (p := ⟨w.heap.size + 1, 1, none⟩) ((Below.refl _ v2).drew) hbw3 (by simp <;> omega) v2c11; have w3z11 := old_frozen (p := ⟨w.heap.size + 1, 1, none⟩) ((Below.refl _ v2).drew) hbw3 (by simp <;> omega) v2z11; have Sw3 := hbw3.size; (try simp at Sw3); have Hw3 := hide (chainB (chainB (unhide Hv2) ((Below.refl _ v2).drew)) hbw3); clear hbw3))
    all_goals (go_wp2; go_ret; exact ⟨rfl, unhide Hw3⟩))

set_option maxHeartbeats 8000000 in
theorem spIs_2n (lo hi l2 h2 : Nat) {x0 y0 x1 y1 : Nat} {z1 z2 : Nat} {b : Bool} (hS1 : Hid (∀ w, Calls Try.prog 27 #[iv lo hi] w fun e w' => e = .returned (iv x0 y0) ∧ Below w.heap.size w w')) (hS2 : Hid (∀ w, Calls Try.prog 27 #[iv l2 h2] w fun e w' => e = .returned (iv x1 y1) ∧ Below w.heap.size w w')) (hE : Hid (∀ w, Calls Try.prog 28 #[] w fun e w' => e = .returned (iv z1 z2) ∧ Below w.heap.size w w')) (t1 : (FloatKind.f64.format.order x0 z1 == some .eq) = false) (hI : Hid (∀ w, Calls Try.prog 32 #[iv x0 y0, iv x1 y1] w fun e w' => e = .returned (.bool b) ∧ Below w.heap.size w w')) (w : World) :
    Calls Try.prog 15 #[.int .i64 2, iv lo hi, iv l2 h2] w fun e w' => e = .returned (.bool b) ∧ Below w.heap.size w w' := by
  have hst := run_store_float
  have hq := run_eq_float
  unfold iv at *
  go_enter Try.func15, Try.ntmps15
  go_wp2_with fail
  go_region_with (first | (go_at_call_of 27 (Value.float FloatKind.f64 lo); refine ((unhide hS1) _).mono ?_; rintro e w1 ⟨rfl, hbw1⟩; have w1c00 := hbw1.cell (p := ⟨w.heap.size, 0, none⟩) (by simp <;> omega); have w1z00 := hbw1.frozen (p := ⟨w.heap.size, 0, none⟩) (by simp <;> omega); have w1c01 := hbw1.cell (p := ⟨w.heap.size, 1, none⟩) (by simp <;> omega); have w1z01 := hbw1.frozen (p := ⟨w.heap.size, 1, none⟩) (by simp <;> omega); have w1c10 := hbw1.cell (p := ⟨w.heap.size + 1, 0, none⟩) (by simp <;> omega); have w1z10 := hbw1.frozen (p := ⟨w.heap.size + 1, 0, none⟩) (by simp <;> omega); have w1c11 := hbw1.cell (p := ⟨w.heap.size + 1, 1, none⟩) (by simp <;> omega); have w1z11 := hbw1.frozen (p := ⟨w.heap.size + 1, 1, none⟩) (by simp <;> omega); simp [go_sem] at w1c00 w1z00 w1c01 w1z01 w1c10 w1z10 w1c11 w1z11; have Sw1 := hbw1.size; (try simp at Sw1); have Hw1 := hide (chainB ((twoB w _ _).drew) hbw1); clear hbw1) | (go_at_call_of 27 (Value.float FloatKind.f64 l2); refine ((unhide hS2) _).mono ?_; rintro e w2 ⟨rfl, hbw2⟩; have w2c00 := old_cell (p := ⟨w.heap.size, 0, none⟩) (Below.refl _ _) hbw2 (by simp <;> omega) w1c00; have w2z00 := old_frozen (p := ⟨w.heap.size, 0, none⟩) (Below.refl _ _) hbw2 (by simp <;> omega) w1z00; have w2c01 := old_cell (p := ⟨w.heap.size, 1, none⟩) (Below.refl _ _) hbw2 (by simp <;> omega) w1c01; have w2z01 := old_frozen (p := ⟨w.heap.size, 1, none⟩) (Below.refl _ _) hbw2 (by simp <;> omega) w1z01; have w2c10 := old_cell (p := ⟨w.heap.size + 1, 0, none⟩) (Below.refl _ _) hbw2 (by simp <;> omega) w1c10; have w2z10 := old_frozen (p := ⟨w.heap.size + 1, 0, none⟩) (Below.refl _ _) hbw2 (by simp <;> omega) w1z10; have w2c11 := old_cell (p := ⟨w.heap.size + 1, 1, none⟩) (Below.refl _ _) hbw2 (by simp <;> omega) w1c11; have w2z11 := old_frozen (p := ⟨w.heap.size + 1, 1, none⟩) (Below.refl _ _) hbw2 (by simp <;> omega) w1z11; have Sw2 := hbw2.size; (try simp at Sw2); have Hw2 := hide (chainB (chainB (unhide Hw1) (Below.refl _ _)) hbw2); clear hbw2))
  all_goals (
    have v1c00 : ((w2.setCell ⟨w.heap.size, 0, none⟩ (.float .f64 x0)).setCell ⟨w.heap.size, 1, none⟩ (.float .f64 y0)).cell? ⟨w.heap.size, 0, none⟩ = some (.float .f64 x0) := by simp [go_sem, w2c00]
    have v1c01 : ((w2.setCell ⟨w.heap.size, 0, none⟩ (.float .f64 x0)).setCell ⟨w.heap.size, 1, none⟩ (.float .f64 y0)).cell? ⟨w.heap.size, 1, none⟩ = some (.float .f64 y0) := by simp [go_sem, w2c01]
    have v1z00 := set_frozen (x := .float .f64 x0) (y := .float .f64 y0) (g := w.heap.size) w2z00
    have v1z01 := set_frozen (x := .float .f64 x0) (y := .float .f64 y0) (g := w.heap.size) w2z01
    have v1c10 := keep_set (x := .float .f64 x0) (y := .float .f64 y0) (g := w.heap.size) w2c10 (by simp <;> omega)
    have v1z10 := set_frozen (x := .float .f64 x0) (y := .float .f64 y0) (g := w.heap.size) w2z10
    have v1c11 := keep_set (x := .float .f64 x0) (y := .float .f64 y0) (g := w.heap.size) w2c11 (by simp <;> omega)
    have v1z11 := set_frozen (x := .float .f64 x0) (y := .float .f64 y0) (g := w.heap.size) w2z11
    have Hv1 := hide (set2B (unhide Hw2) (g := w.heap.size) (by omega) (.float .f64 x0) (.float .f64 y0))
    have Sv1 : w.heap.size + 2 ≤ ((w2.setCell ⟨w.heap.size, 0, none⟩ (.float .f64 x0)).setCell ⟨w.heap.size, 1, none⟩ (.float .f64 y0)).heap.size := by simp; omega
    generalize ((w2.setCell ⟨w.heap.size, 0, none⟩ (.float .f64 x0)).setCell ⟨w.heap.size, 1, none⟩ (.float .f64 y0)) = v1 at *
    have v2c10 : ((v1.setCell ⟨w.heap.size + 1, 0, none⟩ (.float .f64 x1)).setCell ⟨w.heap.size + 1, 1, none⟩ (.float .f64 y1)).cell? ⟨w.heap.size + 1, 0, none⟩ = some (.float .f64 x1) := by simp [go_sem, v1c10]
    have v2c11 : ((v1.setCell ⟨w.heap.size + 1, 0, none⟩ (.float .f64 x1)).setCell ⟨w.heap.size + 1, 1, none⟩ (.float .f64 y1)).cell? ⟨w.heap.size + 1, 1, none⟩ = some (.float .f64 y1) := by simp [go_sem, v1c11]
    have v2z10 := set_frozen (x := .float .f64 x1) (y := .float .f64 y1) (g := w.heap.size + 1) v1z10
    have v2z11 := set_frozen (x := .float .f64 x1) (y := .float .f64 y1) (g := w.heap.size + 1) v1z11
    have v2c00 := keep_set (x := .float .f64 x1) (y := .float .f64 y1) (g := w.heap.size + 1) v1c00 (by simp <;> omega)
    have v2z00 := set_frozen (x := .float .f64 x1) (y := .float .f64 y1) (g := w.heap.size + 1) v1z00
    have v2c01 := keep_set (x := .float .f64 x1) (y := .float .f64 y1) (g := w.heap.size + 1) v1c01 (by simp <;> omega)
    have v2z01 := set_frozen (x := .float .f64 x1) (y := .float .f64 y1) (g := w.heap.size + 1) v1z01
    have Hv2 := hide (set2B (unhide Hv1) (g := w.heap.size + 1) (by omega) (.float .f64 x1) (.float .f64 y1))
    have Sv2 : w.heap.size + 2 ≤ ((v1.setCell ⟨w.heap.size + 1, 0, none⟩ (.float .f64 x1)).setCell ⟨w.heap.size + 1, 1, none⟩ (.float .f64 y1)).heap.size := by simp; omega
    generalize ((v1.setCell ⟨w.heap.size + 1, 0, none⟩ (.float .f64 x1)).setCell ⟨w.heap.size + 1, 1, none⟩ (.float .f64 y1)) = v2 at *
    go_wp2_with fail
    go_region_held3 (fun W => W.cell? ⟨w.heap.size, 0, none⟩ = some (.float .f64 x0) ∧ W.cell? ⟨w.heap.size, 1, none⟩ = some (.float .f64 y0) ∧ W.cell? ⟨w.heap.size + 1, 0, none⟩ = some (.float .f64 x1) ∧ W.cell? ⟨w.heap.size + 1, 1, none⟩ = some (.float .f64 y1)) (first | (go_keep; done) | exact ⟨w3c00, w3c01, w3c10, w3c11⟩ | exact ⟨w4c00, w4c01, w4c10, w4c11⟩) (first | (go_at_call 28; refine ((unhide hE) _).mono ?_; rintro e w3 ⟨rfl, hbw3⟩; have w3c00 := old_cell (p := ⟨w.heap.size, 0, none⟩) ((Below.refl _ v2).drew) hbw3 (by simp <;> omega) v2c00; have w3z00 := old_frozen (p := ⟨w.heap.size, 0, none⟩) ((Below.refl _ v2).drew) hbw3 (by simp <;> omega) v2z00; have w3c01 := old_cell (p := ⟨w.heap.size, 1, none⟩) ((Below.refl _ v2).drew) hbw3 (by simp <;> omega) v2c01; have w3z01 := old_frozen (p := ⟨w.heap.size, 1, none⟩) ((Below.refl _ v2).drew) hbw3 (by simp <;> omega) v2z01; have w3c10 := old_cell (p := ⟨w.heap.size + 1, 0, none⟩) ((Below.refl _ v2).drew) hbw3 (by simp <;> omega) v2c10; have w3z10 := old_frozen (p := ⟨w.heap.size + 1, 0, none⟩) ((Below.refl _ v2).drew) hbw3 (by simp <;> omega) v2z10; have w3c11 := old_cell (p := ⟨w.heap.size + 1, 1, none⟩) ((Below.refl _ v2).drew) hbw3 (by simp <;> omega) v2c11; have w3z11 := old_frozen (p := ⟨w.heap.size + 1, 1, none⟩) ((Below.refl _ v2).drew) hbw3 (by simp <;> omega) v2z11; have Sw3 := hbw3.size; (try simp at Sw3); have Hw3 := hide (chainB (chainB (unhide Hv2) ((Below.refl _ v2).drew)) hbw3); clear hbw3) | (go_at_call 32; refine ((unhide hI) _).mono ?_; rintro e w4 ⟨rfl, hbw4⟩; have w4c00 := old_cell (p := ⟨w.heap.size, 0, none⟩) (Below.refl _ _) hbw4 (by simp <;> omega) w3c00; have w4z00 := old_frozen (p := ⟨w.heap.size, 0, none⟩) (Below.refl _ _) hbw4 (by simp <;> omega) w3z00; have w4c01 := old_cell (p := ⟨w.heap.size, 1, none⟩) (Below.refl _ _) hbw4 (by simp <;> omega) w3c01; have w4z01 := old_frozen (p := ⟨w.heap.size, 1, none⟩) (Below.refl _ _) hbw4 (by simp <;> omega) w3z01; have w4c10 := old_cell (p := ⟨w.heap.size + 1, 0, none⟩) (Below.refl _ _) hbw4 (by simp <;> omega) w3c10; have w4z10 := old_frozen (p := ⟨w.heap.size + 1, 0, none⟩) (Below.refl _ _) hbw4 (by simp <;> omega) w3z10; have w4c11 := old_cell (p := ⟨w.heap.size + 1, 1, none⟩) (Below.refl _ _) hbw4 (by simp <;> omega) w3c11; have w4z11 := old_frozen (p := ⟨w.heap.size + 1, 1, none⟩) (Below.refl _ _) hbw4 (by simp <;> omega) w3z11; have Sw4 := hbw4.size; (try simp at Sw4); have Hw4 := hide (chainB (chainB (unhide Hw3) (Below.refl _ _)) hbw4); clear hbw4))
    all_goals (go_wp2; go_ret; exact ⟨rfl, unhide Hw4⟩))

end Go.Proofs.Ytaekmlmehkkdfaa
