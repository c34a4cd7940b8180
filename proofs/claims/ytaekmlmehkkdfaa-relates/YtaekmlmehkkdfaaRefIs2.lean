/-
  Is of the reference, over letters: Interior, Precedes, none. (Written by tools/genrefrel.py.)
-/
import Derived.Test.YtaekmlmehkkdfaaLeast
import Derived.Deep.RegionHeld3
namespace Go.Proofs.Ytaekmlmehkkdfaa
open Go.RowKit Flt
set_option linter.unusedVariables false      -- the cases share one head: not every case uses every name of it

set_option maxHeartbeats 8000000 in
theorem refIs_5 (lo hi l2 h2 : Nat) {x0 y0 x1 y1 : Nat} {nx ny : Bool} {b1 : Bool} (hT1 : Hid (∀ w, Calls Try.prog 31 #[iv lo hi] w fun e w' => e = .returned (iv x0 y0) ∧ Below w.heap.size w w')) (hT2 : Hid (∀ w, Calls Try.prog 31 #[iv l2 h2] w fun e w' => e = .returned (iv x1 y1) ∧ Below w.heap.size w w')) (hN1 : Hid (∀ w, Calls Try.prog 30 #[iv x0 y0] w fun e w' => e = .returned (.bool nx) ∧ Below w.heap.size w w')) (hN2 : Hid (∀ w, Calls Try.prog 30 #[iv x1 y1] w fun e w' => e = .returned (.bool ny) ∧ Below w.heap.size w w')) (t1 : (FloatKind.f64.format.order y0 x1 == some .lt || FloatKind.f64.format.order y0 x1 == some .eq) = b1) (w : World) :
    Calls Try.prog 16 #[.int .i64 5, iv lo hi, iv l2 h2] w fun e w' => e = .returned (.bool (nx || ny || b1)) ∧ Below w.heap.size w w' := by
  have hst := run_store_float
  have hq := run_eq_float
  unfold iv at *
  go_enter Try.func16, Try.ntmps16
  go_wp2_with fail
  refine ((unhide hT1) _).mono ?_
  rintro e w1 ⟨rfl, hbw1⟩
  have w1c00 := hbw1.cell (p := ⟨w.heap.size, 0, none⟩) (by simp <;> omega)
  have w1z00 := hbw1.frozen (p := ⟨w.heap.size, 0, none⟩) (by simp <;> omega)
  have w1c01 := hbw1.cell (p := ⟨w.heap.size, 1, none⟩) (by simp <;> omega)
  have w1z01 := hbw1.frozen (p := ⟨w.heap.size, 1, none⟩) (by simp <;> omega)
  have w1c10 := hbw1.cell (p := ⟨w.heap.size + 1, 0, none⟩) (by simp <;> omega)
  have w1z10 := hbw1.frozen (p := ⟨w.heap.size + 1, 0, none⟩) (by simp <;> omega)
  have w1c11 := hbw1.cell (p := ⟨w.heap.size + 1, 1, none⟩) (by simp <;> omega)
  have w1z11 := hbw1.frozen (p := ⟨w.heap.size + 1, 1, none⟩) (by simp <;> omega)
  simp [go_sem] at w1c00 w1z00 w1c01 w1z01 w1c10 w1z10 w1c11 w1z11
  have Sw1 := hbw1.size
  (try simp at Sw1)
  have Hw1 := hide (chainB (twoB w _ _) hbw1)
  clear hbw1
  go_wp2_with fail
  have v1c00 : ((w1.setCell ⟨w.heap.size, 0, none⟩ (.float .f64 x0)).setCell ⟨w.heap.size, 1, none⟩ (.float .f64 y0)).cell? ⟨w.heap.size, 0, none⟩ = some (.float .f64 x0) := by simp [go_sem, w1c00]
  have v1c01 : ((w1.setCell ⟨w.heap.size, 0, none⟩ (.float .f64 x0)).setCell ⟨w.heap.size, 1, none⟩ (.float .f64 y0)).cell? ⟨w.heap.size, 1, none⟩ = some (.float .f64 y0) := by simp [go_sem, w1c01]
  have v1z00 := set_frozen (x := .float .f64 x0) (y := .float .f64 y0) (g := w.heap.size) w1z00
  have v1z01 := set_frozen (x := .float .f64 x0) (y := .float .f64 y0) (g := w.heap.size) w1z01
  have v1c10 := keep_set (x := .float .f64 x0) (y := .float .f64 y0) (g := w.heap.size) w1c10 (by simp <;> omega)
  have v1z10 := set_frozen (x := .float .f64 x0) (y := .float .f64 y0) (g := w.heap.size) w1z10
  have v1c11 := keep_set (x := .float .f64 x0) (y := .float .f64 y0) (g := w.heap.size) w1c11 (by simp <;> omega)
  have v1z11 := set_frozen (x := .float .f64 x0) (y := .float .f64 y0) (g := w.heap.size) w1z11
  have Hv1 := hide (set2B (unhide Hw1) (g := w.heap.size) (by omega) (.float .f64 x0) (.float .f64 y0))
  have Sv1 : w.heap.size + 2 ≤ ((w1.setCell ⟨w.heap.size, 0, none⟩ (.float .f64 x0)).setCell ⟨w.heap.size, 1, none⟩ (.float .f64 y0)).heap.size := by simp; omega
  generalize ((w1.setCell ⟨w.heap.size, 0, none⟩ (.float .f64 x0)).setCell ⟨w.heap.size, 1, none⟩ (.float .f64 y0)) = v1 at *
  refine ((unhide hT2) _).mono ?_
  rintro e w2 ⟨rfl, hbw2⟩
  have w2c00 := old_cell (p := ⟨w.heap.size, 0, none⟩) (Below.refl _ _) hbw2 (by simp <;> omega) v1c00
  have w2z00 := old_frozen (p := ⟨w.heap.size, 0, none⟩) (Below.refl _ _) hbw2 (by simp <;> omega) v1z00
  have w2c01 := old_cell (p := ⟨w.heap.size, 1, none⟩) (Below.refl _ _) hbw2 (by simp <;> omega) v1c01
  have w2z01 := old_frozen (p := ⟨w.heap.size, 1, none⟩) (Below.refl _ _) hbw2 (by simp <;> omega) v1z01
  have w2c10 := old_cell (p := ⟨w.heap.size + 1, 0, none⟩) (Below.refl _ _) hbw2 (by simp <;> omega) v1c10
  have w2z10 := old_frozen (p := ⟨w.heap.size + 1, 0, none⟩) (Below.refl _ _) hbw2 (by simp <;> omega) v1z10
  have w2c11 := old_cell (p := ⟨w.heap.size + 1, 1, none⟩) (Below.refl _ _) hbw2 (by simp <;> omega) v1c11
  have w2z11 := old_frozen (p := ⟨w.heap.size + 1, 1, none⟩) (Below.refl _ _) hbw2 (by simp <;> omega) v1z11
  have Sw2 := hbw2.size
  (try simp at Sw2)
  have Hw2 := hide (chainB (chainB (unhide Hv1) (Below.refl _ _)) hbw2)
  clear hbw2
  go_wp2_with fail
  have v2c10 : ((w2.setCell ⟨w.heap.size + 1, 0, none⟩ (.float .f64 x1)).setCell ⟨w.heap.size + 1, 1, none⟩ (.float .f64 y1)).cell? ⟨w.heap.size + 1, 0, none⟩ = some (.float .f64 x1) := by simp [go_sem, w2c10]
  have v2c11 : ((w2.setCell ⟨w.heap.size + 1, 0, none⟩ (.float .f64 x1)).setCell ⟨w.heap.size + 1, 1, none⟩ (.float .f64 y1)).cell? ⟨w.heap.size + 1, 1, none⟩ = some (.float .f64 y1) := by simp [go_sem, w2c11]
  have v2z10 := set_frozen (x := .float .f64 x1) (y := .float .f64 y1) (g := w.heap.size + 1) w2z10
  have v2z11 := set_frozen (x := .float .f64 x1) (y := .float .f64 y1) (g := w.heap.size + 1) w2z11
  have v2c00 := keep_set (x := .float .f64 x1) (y := .float .f64 y1) (g := w.heap.size + 1) w2c00 (by simp <;> omega)
  have v2z00 := set_frozen (x := .float .f64 x1) (y := .float .f64 y1) (g := w.heap.size + 1) w2z00
  have v2c01 := keep_set (x := .float .f64 x1) (y := .float .f64 y1) (g := w.heap.size + 1) w2c01 (by simp <;> omega)
  have v2z01 := set_frozen (x := .float .f64 x1) (y := .float .f64 y1) (g := w.heap.size + 1) w2z01
  have Hv2 := hide (set2B (unhide Hw2) (g := w.heap.size + 1) (by omega) (.float .f64 x1) (.float .f64 y1))
  have Sv2 : w.heap.size + 2 ≤ ((w2.setCell ⟨w.heap.size + 1, 0, none⟩ (.float .f64 x1)).setCell ⟨w.heap.size + 1, 1, none⟩ (.float .f64 y1)).heap.size := by simp; omega
  generalize ((w2.setCell ⟨w.heap.size + 1, 0, none⟩ (.float .f64 x1)).setCell ⟨w.heap.size + 1, 1, none⟩ (.float .f64 y1)) = v2 at *
  refine ((unhide hN1) _).mono ?_
  rintro e w3 ⟨rfl, hbw3⟩
  have w3c00 := old_cell (p := ⟨w.heap.size, 0, none⟩) (Below.refl _ _) hbw3 (by simp <;> omega) v2c00
  have w3z00 := old_frozen (p := ⟨w.heap.size, 0, none⟩) (Below.refl _ _) hbw3 (by simp <;> omega) v2z00
  have w3c01 := old_cell (p := ⟨w.heap.size, 1, none⟩) (Below.refl _ _) hbw3 (by simp <;> omega) v2c01
  have w3z01 := old_frozen (p := ⟨w.heap.size, 1, none⟩) (Below.refl _ _) hbw3 (by simp <;> omega) v2z01
  have w3c10 := old_cell (p := ⟨w.heap.size + 1, 0, none⟩) (Below.refl _ _) hbw3 (by simp <;> omega) v2c10
  have w3z10 := old_frozen (p := ⟨w.heap.size + 1, 0, none⟩) (Below.refl _ _) hbw3 (by simp <;> omega) v2z10
  have w3c11 := old_cell (p := ⟨w.heap.size + 1, 1, none⟩) (Below.refl _ _) hbw3 (by simp <;> omega) v2c11
  have w3z11 := old_frozen (p := ⟨w.heap.size + 1, 1, none⟩) (Below.refl _ _) hbw3 (by simp <;> omega) v2z11
  have Sw3 := hbw3.size
  (try simp at Sw3)
  have Hw3 := hide (chainB (chainB (unhide Hv2) (Below.refl _ _)) hbw3)
  clear hbw3
  go_wp2_with fail
  refine ((unhide hN2) _).mono ?_
  rintro e w4 ⟨rfl, hbw4⟩
  have w4c00 := old_cell (p := ⟨w.heap.size, 0, none⟩) (Below.refl _ _) hbw4 (by simp <;> omega) w3c00
  have w4z00 := old_frozen (p := ⟨w.heap.size, 0, none⟩) (Below.refl _ _) hbw4 (by simp <;> omega) w3z00
  have w4c01 := old_cell (p := ⟨w.heap.size, 1, none⟩) (Below.refl _ _) hbw4 (by simp <;> omega) w3c01
  have w4z01 := old_frozen (p := ⟨w.heap.size, 1, none⟩) (Below.refl _ _) hbw4 (by simp <;> omega) w3z01
  have w4c10 := old_cell (p := ⟨w.heap.size + 1, 0, none⟩) (Below.refl _ _) hbw4 (by simp <;> omega) w3c10
  have w4z10 := old_frozen (p := ⟨w.heap.size + 1, 0, none⟩) (Below.refl _ _) hbw4 (by simp <;> omega) w3z10
  have w4c11 := old_cell (p := ⟨w.heap.size + 1, 1, none⟩) (Below.refl _ _) hbw4 (by simp <;> omega) w3c11
  have w4z11 := old_frozen (p := ⟨w.heap.size + 1, 1, none⟩) (Below.refl _ _) hbw4 (by simp <;> omega) w3z11
  have Sw4 := hbw4.size
  (try simp at Sw4)
  have Hw4 := hide (chainB (chainB (unhide Hw3) (Below.refl _ _)) hbw4)
  clear hbw4
  cases nx
  · cases ny
    · cases b1
      · go_wp2
        go_ret
        exact ⟨rfl, unhide Hw4⟩
      · go_wp2
        go_ret
        exact ⟨rfl, unhide Hw4⟩
    · go_wp2
      go_ret
      exact ⟨rfl, unhide Hw4⟩
  · go_wp2
    go_ret
    exact ⟨rfl, unhide Hw4⟩

set_option maxHeartbeats 8000000 in
theorem refIs_2 (lo hi l2 h2 : Nat) {x0 y0 x1 y1 : Nat} {nx ny : Bool} {z1 z2 : Nat} {b1 b2 b3 b4 : Bool} (hT1 : Hid (∀ w, Calls Try.prog 31 #[iv lo hi] w fun e w' => e = .returned (iv x0 y0) ∧ Below w.heap.size w w')) (hT2 : Hid (∀ w, Calls Try.prog 31 #[iv l2 h2] w fun e w' => e = .returned (iv x1 y1) ∧ Below w.heap.size w w')) (hN1 : Hid (∀ w, Calls Try.prog 30 #[iv x0 y0] w fun e w' => e = .returned (.bool nx) ∧ Below w.heap.size w w')) (hN2 : Hid (∀ w, Calls Try.prog 30 #[iv x1 y1] w fun e w' => e = .returned (.bool ny) ∧ Below w.heap.size w w')) (hI : Hid (∀ w, Calls Try.prog 33 #[] w fun e w' => e = .returned (.float .f64 z1) ∧ w' = w)) (n1 : ∀ w, (Op.unary UnOp.neg (.float .f64 z1)).run Try.prog w = .ok (.float .f64 z2) w) (t1 : (FloatKind.f64.format.order x1 x0 == some .lt) = b1) (t2 : (FloatKind.f64.format.order x1 z2 == some .eq) = b2) (t3 : (FloatKind.f64.format.order y0 y1 == some .lt) = b3) (t4 : (FloatKind.f64.format.order y1 z1 == some .eq) = b4) (w : World) :
    Calls Try.prog 16 #[.int .i64 2, iv lo hi, iv l2 h2] w fun e w' => e = .returned (.bool (nx || (!ny && (b1 || b2) && (b3 || b4)))) ∧ Below w.heap.size w w' := by
  have hst := run_store_float
  have hq := run_eq_float
  unfold iv at *
  go_enter Try.func16, Try.ntmps16
  go_wp2_with fail
  refine ((unhide hT1) _).mono ?_
  rintro e w1 ⟨rfl, hbw1⟩
  have w1c00 := hbw1.cell (p := ⟨w.heap.size, 0, none⟩) (by simp <;> omega)
  have w1z00 := hbw1.frozen (p := ⟨w.heap.size, 0, none⟩) (by simp <;> omega)
  have w1c01 := hbw1.cell (p := ⟨w.heap.size, 1, none⟩) (by simp <;> omega)
  have w1z01 := hbw1.frozen (p := ⟨w.heap.size, 1, none⟩) (by simp <;> omega)
  have w1c10 := hbw1.cell (p := ⟨w.heap.size + 1, 0, none⟩) (by simp <;> omega)
  have w1z10 := hbw1.frozen (p := ⟨w.heap.size + 1, 0, none⟩) (by simp <;> omega)
  have w1c11 := hbw1.cell (p := ⟨w.heap.size + 1, 1, none⟩) (by simp <;> omega)
  have w1z11 := hbw1.frozen (p := ⟨w.heap.size + 1, 1, none⟩) (by simp <;> omega)
  simp [go_sem] at w1c00 w1z00 w1c01 w1z01 w1c10 w1z10 w1c11 w1z11
  have Sw1 := hbw1.size
  (try simp at Sw1)
  have Hw1 := hide (chainB (twoB w _ _) hbw1)
  clear hbw1
  go_wp2_with fail
  have v1c00 : ((w1.setCell ⟨w.heap.size, 0, none⟩ (.float .f64 x0)).setCell ⟨w.heap.size, 1, none⟩ (.float .f64 y0)).cell? ⟨w.heap.size, 0, none⟩ = some (.float .f64 x0) := by simp [go_sem, w1c00]
  have v1c01 : ((w1.setCell ⟨w.heap.size, 0, none⟩ (.float .f64 x0)).setCell ⟨w.heap.size, 1, none⟩ (.float .f64 y0)).cell? ⟨w.heap.size, 1, none⟩ = some (.float .f64 y0) := by simp [go_sem, w1c01]
  have v1z00 := set_frozen (x := .float .f64 x0) (y := .float .f64 y0) (g := w.heap.size) w1z00
  have v1z01 := set_frozen (x := .float .f64 x0) (y := .float .f64 y0) (g := w.heap.size) w1z01
  have v1c10 := keep_set (x := .float .f64 x0) (y := .float .f64 y0) (g := w.heap.size) w1c10 (by simp <;> omega)
  have v1z10 := set_frozen (x := .float .f64 x0) (y := .float .f64 y0) (g := w.heap.size) w1z10
  have v1c11 := keep_set (x := .float .f64 x0) (y := .float .f64 y0) (g := w.heap.size) w1c11 (by simp <;> omega)
  have v1z11 := set_frozen (x := .float .f64 x0) (y := .float .f64 y0) (g := w.heap.size) w1z11
  have Hv1 := hide (set2B (unhide Hw1) (g := w.heap.size) (by omega) (.float .f64 x0) (.float .f64 y0))
  have Sv1 : w.heap.size + 2 ≤ ((w1.setCell ⟨w.heap.size, 0, none⟩ (.float .f64 x0)).setCell ⟨w.heap.size, 1, none⟩ (.float .f64 y0)).heap.size := by simp; omega
  generalize ((w1.setCell ⟨w.heap.size, 0, none⟩ (.float .f64 x0)).setCell ⟨w.heap.size, 1, none⟩ (.float .f64 y0)) = v1 at *
  refine ((unhide hT2) _).mono ?_
  rintro e w2 ⟨rfl, hbw2⟩
  have w2c00 := old_cell (p := ⟨w.heap.size, 0, none⟩) (Below.refl _ _) hbw2 (by simp <;> omega) v1c00
  have w2z00 := old_frozen (p := ⟨w.heap.size, 0, none⟩) (Below.refl _ _) hbw2 (by simp <;> omega) v1z00
  have w2c01 := old_cell (p := ⟨w.heap.size, 1, none⟩) (Below.refl _ _) hbw2 (by simp <;> omega) v1c01
  have w2z01 := old_frozen (p := ⟨w.heap.size, 1, none⟩) (Below.refl _ _) hbw2 (by simp <;> omega) v1z01
  have w2c10 := old_cell (p := ⟨w.heap.size + 1, 0, none⟩) (Below.refl _ _) hbw2 (by simp <;> omega) v1c10
  have w2z10 := old_frozen (p := ⟨w.heap.size + 1, 0, none⟩) (Below.refl _ _) hbw2 (by simp <;> omega) v1z10
  have w2c11 := old_cell (p := ⟨w.heap.size + 1, 1, none⟩) (Below.refl _ _) hbw2 (by simp <;> omega) v1c11
  have w2z11 := old_frozen (p := ⟨w.heap.size + 1, 1, none⟩) (Below.refl _ _) hbw2 (by simp <;> omega) v1z11
  have Sw2 := hbw2.size
  (try simp at Sw2)
  have Hw2 := hide (chainB (chainB (unhide Hv1) (Below.refl _ _)) hbw2)
  clear hbw2
  go_wp2_with fail
  have v2c10 : ((w2.setCell ⟨w.heap.size + 1, 0, none⟩ (.float .f64 x1)).setCell ⟨w.heap.size + 1, 1, none⟩ (.float .f64 y1)).cell? ⟨w.heap.size + 1, 0, none⟩ = some (.float .f64 x1) := by simp [go_sem, w2c10]
  have v2c11 : ((w2.setCell ⟨w.heap.size + 1, 0, none⟩ (.float .f64 x1)).setCell ⟨w.heap.size + 1, 1, none⟩ (.float .f64 y1)).cell? ⟨w.heap.size + 1, 1, none⟩ = some (.float .f64 y1) := by simp [go_sem, w2c11]
  have v2z10 := set_frozen (x := .float .f64 x1) (y := .float .f64 y1) (g := w.heap.size + 1) w2z10
  have v2z11 := set_frozen (x := .float .f64 x1) (y := .float .f64 y1) (g := w.heap.size + 1) w2z11
  have v2c00 := keep_set (x := .float .f64 x1) (y := .float .f64 y1) (g := w.heap.size + 1) w2c00 (by simp <;> omega)
  have v2z00 := set_frozen (x := .float .f64 x1) (y := .float .f64 y1) (g := w.heap.size + 1) w2z00
  have v2c01 := keep_set (x := .float .f64 x1) (y := .float .f64 y1) (g := w.heap.size + 1) w2c01 (by simp <;> omega)
  have v2z01 := set_frozen (x := .float .f64 x1) (y := .float .f64 y1) (g := w.heap.size + 1) w2z01
  have Hv2 := hide (set2B (unhide Hw2) (g := w.heap.size + 1) (by omega) (.float .f64 x1) (.float .f64 y1))
  have Sv2 : w.heap.size + 2 ≤ ((w2.setCell ⟨w.heap.size + 1, 0, none⟩ (.float .f64 x1)).setCell ⟨w.heap.size + 1, 1, none⟩ (.float .f64 y1)).heap.size := by simp; omega
  generalize ((w2.setCell ⟨w.heap.size + 1, 0, none⟩ (.float .f64 x1)).setCell ⟨w.heap.size + 1, 1, none⟩ (.float .f64 y1)) = v2 at *
  refine ((unhide hN1) _).mono ?_
  rintro e w3 ⟨rfl, hbw3⟩
  have w3c00 := old_cell (p := ⟨w.heap.size, 0, none⟩) (Below.refl _ _) hbw3 (by simp <;> omega) v2c00
  have w3z00 := old_frozen (p := ⟨w.heap.size, 0, none⟩) (Below.refl _ _) hbw3 (by simp <;> omega) v2z00
  have w3c01 := old_cell (p := ⟨w.heap.size, 1, none⟩) (Below.refl _ _) hbw3 (by simp <;> omega) v2c01
  have w3z01 := old_frozen (p := ⟨w.heap.size, 1, none⟩) (Below.refl _ _) hbw3 (by simp <;> omega) v2z01
  have w3c10 := old_cell (p := ⟨w.heap.size + 1, 0, none⟩) (Below.refl _ _) hbw3 (by simp <;> omega) v2c10
  have w3z10 := old_frozen (p := ⟨w.heap.size + 1, 0, none⟩) (Below.refl _ _) hbw3 (by simp <;> omega) v2z10
  have w3c11 := old_cell (p := ⟨w.heap.size + 1, 1, none⟩) (Below.refl _ _) hbw3 (by simp <;> omega) v2c11
  have w3z11 := old_frozen (p := ⟨w.heap.size + 1, 1, none⟩) (Below.refl _ _) hbw3 (by simp <;> omega) v2z11
  have Sw3 := hbw3.size
  (try simp at Sw3)
  have Hw3 := hide (chainB (chainB (unhide Hv2) (Below.refl _ _)) hbw3)
  clear hbw3
  go_wp2_with fail
  refine ((unhide hN2) _).mono ?_
  rintro e w4 ⟨rfl, hbw4⟩
  have w4c00 := old_cell (p := ⟨w.heap.size, 0, none⟩) (Below.refl _ _) hbw4 (by simp <;> omega) w3c00
  have w4z00 := old_frozen (p := ⟨w.heap.size, 0, none⟩) (Below.refl _ _) hbw4 (by simp <;> omega) w3z00
  have w4c01 := old_cell (p := ⟨w.heap.size, 1, none⟩) (Below.refl _ _) hbw4 (by simp <;> omega) w3c01
  have w4z01 := old_frozen (p := ⟨w.heap.size, 1, none⟩) (Below.refl _ _) hbw4 (by simp <;> omega) w3z01
  have w4c10 := old_cell (p := ⟨w.heap.size + 1, 0, none⟩) (Below.refl _ _) hbw4 (by simp <;> omega) w3c10
  have w4z10 := old_frozen (p := ⟨w.heap.size + 1, 0, none⟩) (Below.refl _ _) hbw4 (by simp <;> omega) w3z10
  have w4c11 := old_cell (p := ⟨w.heap.size + 1, 1, none⟩) (Below.refl _ _) hbw4 (by simp <;> omega) w3c11
  have w4z11 := old_frozen (p := ⟨w.heap.size + 1, 1, none⟩) (Below.refl _ _) hbw4 (by simp <;> omega) w3z11
  have Sw4 := hbw4.size
  (try simp at Sw4)
  have Hw4 := hide (chainB (chainB (unhide Hw3) (Below.refl _ _)) hbw4)
  clear hbw4
  cases nx
  · cases ny
    · cases b1
      · cases b2
        · go_wp2
          go_quiet (first | (go_at_call 33; refine Calls.quiet_of_same ((unhide hI) _)))
          go_wp2
          go_ret
          exact ⟨rfl, below_drewN (unhide Hw4) _⟩
        · cases b3
          · cases b4
            · go_wp2
              go_quiet (first | (go_at_call 33; refine Calls.quiet_of_same ((unhide hI) _)))
              go_wp2
              go_ret
              exact ⟨rfl, below_drewN (unhide Hw4) _⟩
            · go_wp2
              go_quiet (first | (go_at_call 33; refine Calls.quiet_of_same ((unhide hI) _)))
              go_wp2
              go_ret
              exact ⟨rfl, below_drewN (unhide Hw4) _⟩
          · go_wp2
            go_quiet (first | (go_at_call 33; refine Calls.quiet_of_same ((unhide hI) _)))
            go_wp2
            go_ret
            exact ⟨rfl, below_drewN (unhide Hw4) _⟩
      · cases b3
        · cases b4
          · go_wp2
            go_quiet (first | (go_at_call 33; refine Calls.quiet_of_same ((unhide hI) _)))
            go_wp2
            go_ret
            exact ⟨rfl, below_drewN (unhide Hw4) _⟩
          · go_wp2
            go_quiet (first | (go_at_call 33; refine Calls.quiet_of_same ((unhide hI) _)))
            go_wp2
            go_ret
            exact ⟨rfl, below_drewN (unhide Hw4) _⟩
        · go_wp2
          go_quiet (first | (go_at_call 33; refine Calls.quiet_of_same ((unhide hI) _)))
          go_wp2
          go_ret
          exact ⟨rfl, below_drewN (unhide Hw4) _⟩
    · go_wp2
      go_quiet (first | (go_at_call 33; refine Calls.quiet_of_same ((unhide hI) _)))
      go_wp2
      go_ret
      exact ⟨rfl, below_drewN (unhide Hw4) _⟩
  · go_wp2
    go_quiet (first | (go_at_call 33; refine Calls.quiet_of_same ((unhide hI) _)))
    go_wp2
    go_ret
    exact ⟨rfl, below_drewN (unhide Hw4) _⟩

set_option maxHeartbeats 8000000 in
theorem refIs_else (lo hi l2 h2 : Nat) {x0 y0 x1 y1 : Nat} {nx ny : Bool} {r : Int} (hT1 : Hid (∀ w, Calls Try.prog 31 #[iv lo hi] w fun e w' => e = .returned (iv x0 y0) ∧ Below w.heap.size w w')) (hT2 : Hid (∀ w, Calls Try.prog 31 #[iv l2 h2] w fun e w' => e = .returned (iv x1 y1) ∧ Below w.heap.size w w')) (hN1 : Hid (∀ w, Calls Try.prog 30 #[iv x0 y0] w fun e w' => e = .returned (.bool nx) ∧ Below w.heap.size w w')) (hN2 : Hid (∀ w, Calls Try.prog 30 #[iv x1 y1] w fun e w' => e = .returned (.bool ny) ∧ Below w.heap.size w w')) (h : r < 0 ∨ 6 ≤ r) (w : World) :
    Calls Try.prog 16 #[.int .i64 r, iv lo hi, iv l2 h2] w fun e w' => e = .returned (.bool false) ∧ Below w.heap.size w w' := by
  have hst := run_store_float
  have hq := run_eq_float
  unfold iv at *
  have b0 : (r == 0) = false := beq_eq_false_iff_ne.2 (by omega)
  have b1 : (r == 1) = false := beq_eq_false_iff_ne.2 (by omega)
  have b2 : (r == 2) = false := beq_eq_false_iff_ne.2 (by omega)
  have b3 : (r == 3) = false := beq_eq_false_iff_ne.2 (by omega)
  have b4 : (r == 4) = false := beq_eq_false_iff_ne.2 (by omega)
  have b5 : (r == 5) = false := beq_eq_false_iff_ne.2 (by omega)
  clear h
  go_enter Try.func16, Try.ntmps16
  go_wp2_with fail
  refine ((unhide hT1) _).mono ?_
  rintro e w1 ⟨rfl, hbw1⟩
  have w1c00 := hbw1.cell (p := ⟨w.heap.size, 0, none⟩) (by simp <;> omega)
  have w1z00 := hbw1.frozen (p := ⟨w.heap.size, 0, none⟩) (by simp <;> omega)
  have w1c01 := hbw1.cell (p := ⟨w.heap.size, 1, none⟩) (by simp <;> omega)
  have w1z01 := hbw1.frozen (p := ⟨w.heap.size, 1, none⟩) (by simp <;> omega)
  have w1c10 := hbw1.cell (p := ⟨w.heap.size + 1, 0, none⟩) (by simp <;> omega)
  have w1z10 := hbw1.frozen (p := ⟨w.heap.size + 1, 0, none⟩) (by simp <;> omega)
  have w1c11 := hbw1.cell (p := ⟨w.heap.size + 1, 1, none⟩) (by simp <;> omega)
  have w1z11 := hbw1.frozen (p := ⟨w.heap.size + 1, 1, none⟩) (by simp <;> omega)
  simp [go_sem] at w1c00 w1z00 w1c01 w1z01 w1c10 w1z10 w1c11 w1z11
  have Sw1 := hbw1.size
  (try simp at Sw1)
  have Hw1 := hide (chainB (twoB w _ _) hbw1)
  clear hbw1
  go_wp2_with fail
  have v1c00 : ((w1.setCell ⟨w.heap.size, 0, none⟩ (.float .f64 x0)).setCell ⟨w.heap.size, 1, none⟩ (.float .f64 y0)).cell? ⟨w.heap.size, 0, none⟩ = some (.float .f64 x0) := by simp [go_sem, w1c00]
  have v1c01 : ((w1.setCell ⟨w.heap.size, 0, none⟩ (.float .f64 x0)).setCell ⟨w.heap.size, 1, none⟩ (.float .f64 y0)).cell? ⟨w.heap.size, 1, none⟩ = some (.float .f64 y0) := by simp [go_sem, w1c01]
  have v1z00 := set_frozen (x := .float .f64 x0) (y := .float .f64 y0) (g := w.heap.size) w1z00
  have v1z01 := set_frozen (x := .float .f64 x0) (y := .float .f64 y0) (g := w.heap.size) w1z01
  have v1c10 := keep_set (x := .float .f64 x0) (y := .float .f64 y0) (g := w.heap.size) w1c10 (by simp <;> omega)
  have v1z10 := set_frozen (x := .float .f64 x0) (y := .float .f64 y0) (g := w.heap.size) w1z10
  have v1c11 := keep_set (x := .float .f64 x0) (y := .float .f64 y0) (g := w.heap.size) w1c11 (by simp <;> omega)
  have v1z11 := set_frozen (x := .float .f64 x0) (y := .float .f64 y0) (g := w.heap.size) w1z11
  have Hv1 := hide (set2B (unhide Hw1) (g := w.heap.size) (by omega) (.float .f64 x0) (.float .f64 y0))
  have Sv1 : w.heap.size + 2 ≤ ((w1.setCell ⟨w.heap.size, 0, none⟩ (.float .f64 x0)).setCell ⟨w.heap.size, 1, none⟩ (.float .f64 y0)).heap.size := by simp; omega
  generalize ((w1.setCell ⟨w.heap.size, 0, none⟩ (.float .f64 x0)).setCell ⟨w.heap.size, 1, none⟩ (.float .f64 y0)) = v1 at *
  refine ((unhide hT2) _).mono ?_
  rintro e w2 ⟨rfl, hbw2⟩
  have w2c00 := old_cell (p := ⟨w.heap.size, 0, none⟩) (Below.refl _ _) hbw2 (by simp <;> omega) v1c00
  have w2z00 := old_frozen (p := ⟨w.heap.size, 0, none⟩) (Below.refl _ _) hbw2 (by simp <;> omega) v1z00
  have w2c01 := old_cell (p := ⟨w.heap.size, 1, none⟩) (Below.refl _ _) hbw2 (by simp <;> omega) v1c01
  have w2z01 := old_frozen (p := ⟨w.heap.size, 1, none⟩) (Below.refl _ _) hbw2 (by simp <;> omega) v1z01
  have w2c10 := old_cell (p := ⟨w.heap.size + 1, 0, none⟩) (Below.refl _ _) hbw2 (by simp <;> omega) v1c10
  have w2z10 := old_frozen (p := ⟨w.heap.size + 1, 0, none⟩) (Below.refl _ _) hbw2 (by simp <;> omega) v1z10
  have w2c11 := old_cell (p := ⟨w.heap.size + 1, 1, none⟩) (Below.refl _ _) hbw2 (by simp <;> omega) v1c11
  have w2z11 := old_frozen (p := ⟨w.heap.size + 1, 1, none⟩) (Below.refl _ _) hbw2 (by simp <;> omega) v1z11
  have Sw2 := hbw2.size
  (try simp at Sw2)
  have Hw2 := hide (chainB (chainB (unhide Hv1) (Below.refl _ _)) hbw2)
  clear hbw2
  go_wp2_with fail
  have v2c10 : ((w2.setCell ⟨w.heap.size + 1, 0, none⟩ (.float .f64 x1)).setCell ⟨w.heap.size + 1, 1, none⟩ (.float .f64 y1)).cell? ⟨w.heap.size + 1, 0, none⟩ = some (.float .f64 x1) := by simp [go_sem, w2c10]
  have v2c11 : ((w2.setCell ⟨w.heap.size + 1, 0, none⟩ (.float .f64 x1)).setCell ⟨w.heap.size + 1, 1, none⟩ (.float .f64 y1)).cell? ⟨w.heap.size + 1, 1, none⟩ = some (.float .f64 y1) := by simp [go_sem, w2c11]
  have v2z10 := set_frozen (x := .float .f64 x1) (y := .float .f64 y1) (g := w.heap.size + 1) w2z10
  have v2z11 := set_frozen (x := .float .f64 x1) (y := .float .f64 y1) (g := w.heap.size + 1) w2z11
  have v2c00 := keep_set (x := .float .f64 x1) (y := .float .f64 y1) (g := w.heap.size + 1) w2c00 (by simp <;> omega)
  have v2z00 := set_frozen (x := .float .f64 x1) (y := .float .f64 y1) (g := w.heap.size + 1) w2z00
  have v2c01 := keep_set (x := .float .f64 x1) (y := .float .f64 y1) (g := w.heap.size + 1) w2c01 (by simp <;> omega)
  have v2z01 := set_frozen (x := .float .f64 x1) (y := .float .f64 y1) (g := w.heap.size + 1) w2z01
  have Hv2 := hide (set2B (unhide Hw2) (g := w.heap.size + 1) (by omega) (.float .f64 x1) (.float .f64 y1))
  have Sv2 : w.heap.size + 2 ≤ ((w2.setCell ⟨w.heap.size + 1, 0, none⟩ (.float .f64 x1)).setCell ⟨w.heap.size + 1, 1, none⟩ (.float .f64 y1)).heap.size := by simp; omega
  generalize ((w2.setCell ⟨w.heap.size + 1, 0, none⟩ (.float .f64 x1)).setCell ⟨w.heap.size + 1, 1, none⟩ (.float .f64 y1)) = v2 at *
  refine ((unhide hN1) _).mono ?_
  rintro e w3 ⟨rfl, hbw3⟩
  have w3c00 := old_cell (p := ⟨w.heap.size, 0, none⟩) (Below.refl _ _) hbw3 (by simp <;> omega) v2c00
  have w3z00 := old_frozen (p := ⟨w.heap.size, 0, none⟩) (Below.refl _ _) hbw3 (by simp <;> omega) v2z00
  have w3c01 := old_cell (p := ⟨w.heap.size, 1, none⟩) (Below.refl _ _) hbw3 (by simp <;> omega) v2c01
  have w3z01 := old_frozen (p := ⟨w.heap.size, 1, none⟩) (Below.refl _ _) hbw3 (by simp <;> omega) v2z01
  have w3c10 := old_cell (p := ⟨w.heap.size + 1, 0, none⟩) (Below.refl _ _) hbw3 (by simp <;> omega) v2c10
  have w3z10 := old_frozen (p := ⟨w.heap.size + 1, 0, none⟩) (Below.refl _ _) hbw3 (by simp <;> omega) v2z10
  have w3c11 := old_cell (p := ⟨w.heap.size + 1, 1, none⟩) (Below.refl _ _) hbw3 (by simp <;> omega) v2c11
  have w3z11 := old_frozen (p := ⟨w.heap.size + 1, 1, none⟩) (Below.refl _ _) hbw3 (by simp <;> omega) v2z11
  have Sw3 := hbw3.size
  (try simp at Sw3)
  have Hw3 := hide (chainB (chainB (unhide Hv2) (Below.refl _ _)) hbw3)
  clear hbw3
  go_wp2_with fail
  refine ((unhide hN2) _).mono ?_
  rintro e w4 ⟨rfl, hbw4⟩
  have w4c00 := old_cell (p := ⟨w.heap.size, 0, none⟩) (Below.refl _ _) hbw4 (by simp <;> omega) w3c00
  have w4z00 := old_frozen (p := ⟨w.heap.size, 0, none⟩) (Below.refl _ _) hbw4 (by simp <;> omega) w3z00
  have w4c01 := old_cell (p := ⟨w.heap.size, 1, none⟩) (Below.refl _ _) hbw4 (by simp <;> omega) w3c01
  have w4z01 := old_frozen (p := ⟨w.heap.size, 1, none⟩) (Below.refl _ _) hbw4 (by simp <;> omega) w3z01
  have w4c10 := old_cell (p := ⟨w.heap.size + 1, 0, none⟩) (Below.refl _ _) hbw4 (by simp <;> omega) w3c10
  have w4z10 := old_frozen (p := ⟨w.heap.size + 1, 0, none⟩) (Below.refl _ _) hbw4 (by simp <;> omega) w3z10
  have w4c11 := old_cell (p := ⟨w.heap.size + 1, 1, none⟩) (Below.refl _ _) hbw4 (by simp <;> omega) w3c11
  have w4z11 := old_frozen (p := ⟨w.heap.size + 1, 1, none⟩) (Below.refl _ _) hbw4 (by simp <;> omega) w3z11
  have Sw4 := hbw4.size
  (try simp at Sw4)
  have Hw4 := hide (chainB (chainB (unhide Hw3) (Below.refl _ _)) hbw4)
  clear hbw4
  go_wp2
  go_ret
  exact ⟨rfl, unhide Hw4⟩

end Go.Proofs.Ytaekmlmehkkdfaa
