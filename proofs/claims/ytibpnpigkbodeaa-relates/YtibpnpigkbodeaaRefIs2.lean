/-
  Is of the reference, over letters: Interior, Precedes, none. (Written by tools/genrefrel.py.)
-/
import Derived.Test.YtibpnpigkbodeaaLeast
import Derived.Deep.RegionHeld3
namespace Go.Proofs.Ytibpnpigkbodeaa
open Go.RowKit Flt
set_option linter.unusedVariables false      -- the cases share one head: not every case uses every name of it

set_option maxHeartbeats 8000000 in
theorem refIs_5 (lo hi l2 h2 : Nat) {x0 y0 x1 y1 : Nat} {nx ny : Bool} {b1 : Bool} (hT1 : Hid (∀ w, Calls Try.prog 31 #[iv lo hi] w fun e w' => e = .returned (iv x0 y0) ∧ Below w.heap.size w w')) (hT2 : Hid (∀ w, Calls Try.prog 31 #[iv l2 h2] w fun e w' => e = .returned (iv x1 y1) ∧ Below w.heap.size w w')) (hN1 : Hid (∀ w, Calls Try.prog 30 #[iv x0 y0] w fun e w' => e = .returned (.bool nx) ∧ Below w.heap.size w w')) (hN2 : Hid (∀ w, Calls Try.prog 30 #[iv x1 y1] w fun e w' => e = .returned (.bool ny) ∧ Below w.heap.size w w')) (t1 : (FloatKind.f64.format.order y0 x1 == some .lt || FloatKind.f64.format.order y0 x1 == some .eq) = b1) (w : World) :
    Calls Try.prog 16 #[.int .i64 5, iv lo hi, iv l2 h2] w fun e w' => e = .returned (.bool (nx || ny || b1)) ∧ Below w.heap.size w w' := by
  have hst := run_store_float
  have hq := run_eq_float
  unfold iv at *
  go_enter Try.func16, Try.ntmps16
  go_wp2_with fail
  refine ((unhide hT1) _).mono ?_
  rintro e w1 ⟨rfl, hbw1⟩
  obtain ⟨w1c00, w1z00, w1c01, w1z01⟩ := bN hbw1 (w.heap.size) (by simp <;> omega)
  obtain ⟨w1c10, w1z10, w1c11, w1z11⟩ := bN hbw1 (w.heap.size + 1) (by simp <;> omega)
  simp [go_sem] at w1c00 w1z00 w1c01 w1z01 w1c10 w1z10 w1c11 w1z11
  have Sw1 := hbw1.size
  (try simp at Sw1)
  have Hw1 := hide (chainB (twoB w _ _) hbw1)
  clear hbw1
  go_wp2_with fail
  generalize hv1 : (w1.setCell ⟨w.heap.size, 0, none⟩ (.float .f64 x0)).setCell ⟨w.heap.size, 1, none⟩ (.float .f64 y0) = v1
  obtain ⟨v1c00, v1z00, v1c01, v1z01⟩ := bW hv1 w1c00 w1z00 w1c01 w1z01
  obtain ⟨v1c10, v1z10, v1c11, v1z11⟩ := bK hv1 (by omega) w1c10 w1z10 w1c11 w1z11
  have Hv1 := hide (bB hv1 (unhide Hw1) (by omega))
  have Sv1 := bS hv1 (show w.heap.size + 2 ≤ w1.heap.size by omega)
  clear hv1
  refine ((unhide hT2) _).mono ?_
  rintro e w2 ⟨rfl, hbw2⟩
  obtain ⟨w2c00, w2z00, w2c01, w2z01⟩ := bO (Below.refl _ _) hbw2 (by omega) v1c00 v1z00 v1c01 v1z01
  obtain ⟨w2c10, w2z10, w2c11, w2z11⟩ := bO (Below.refl _ _) hbw2 (by omega) v1c10 v1z10 v1c11 v1z11
  have Sw2 := hbw2.size
  (try simp at Sw2)
  have Hw2 := hide (chainB (chainB (unhide Hv1) (Below.refl _ _)) hbw2)
  clear hbw2
  go_wp2_with fail
  generalize hv2 : (w2.setCell ⟨w.heap.size + 1, 0, none⟩ (.float .f64 x1)).setCell ⟨w.heap.size + 1, 1, none⟩ (.float .f64 y1) = v2
  obtain ⟨v2c10, v2z10, v2c11, v2z11⟩ := bW hv2 w2c10 w2z10 w2c11 w2z11
  obtain ⟨v2c00, v2z00, v2c01, v2z01⟩ := bK hv2 (by omega) w2c00 w2z00 w2c01 w2z01
  have Hv2 := hide (bB hv2 (unhide Hw2) (by omega))
  have Sv2 := bS hv2 (show w.heap.size + 2 ≤ w2.heap.size by omega)
  clear hv2
  refine ((unhide hN1) _).mono ?_
  rintro e w3 ⟨rfl, hbw3⟩
  obtain ⟨w3c00, w3z00, w3c01, w3z01⟩ := bO (Below.refl _ _) hbw3 (by omega) v2c00 v2z00 v2c01 v2z01
  obtain ⟨w3c10, w3z10, w3c11, w3z11⟩ := bO (Below.refl _ _) hbw3 (by omega) v2c10 v2z10 v2c11 v2z11
  have Sw3 := hbw3.size
  (try simp at Sw3)
  have Hw3 := hide (chainB (chainB (unhide Hv2) (Below.refl _ _)) hbw3)
  clear hbw3
  go_wp2_with fail
  refine ((unhide hN2) _).mono ?_
  rintro e w4 ⟨rfl, hbw4⟩
  obtain ⟨w4c00, w4z00, w4c01, w4z01⟩ := bO (Below.refl _ _) hbw4 (by omega) w3c00 w3z00 w3c01 w3z01
  obtain ⟨w4c10, w4z10, w4c11, w4z11⟩ := bO (Below.refl _ _) hbw4 (by omega) w3c10 w3z10 w3c11 w3z11
  have Sw4 := hbw4.size
  (try simp at Sw4)
  have Hw4 := hide (chainB (chainB (unhide Hw3) (Below.refl _ _)) hbw4)
  clear hbw4
  cases nx
  · cases ny
    · cases b1
      · go_wp2
        go_ret
        exact ⟨rfl, unhide Hw4⟩
      · go_wp2
        go_ret
        exact ⟨rfl, unhide Hw4⟩
    · go_wp2
      go_ret
      exact ⟨rfl, unhide Hw4⟩
  · go_wp2
    go_ret
    exact ⟨rfl, unhide Hw4⟩

set_option maxHeartbeats 8000000 in
theorem refIs_2 (lo hi l2 h2 : Nat) {x0 y0 x1 y1 : Nat} {nx ny : Bool} {z1 z2 : Nat} {b1 b2 b3 b4 : Bool} (hT1 : Hid (∀ w, Calls Try.prog 31 #[iv lo hi] w fun e w' => e = .returned (iv x0 y0) ∧ Below w.heap.size w w')) (hT2 : Hid (∀ w, Calls Try.prog 31 #[iv l2 h2] w fun e w' => e = .returned (iv x1 y1) ∧ Below w.heap.size w w')) (hN1 : Hid (∀ w, Calls Try.prog 30 #[iv x0 y0] w fun e w' => e = .returned (.bool nx) ∧ Below w.heap.size w w')) (hN2 : Hid (∀ w, Calls Try.prog 30 #[iv x1 y1] w fun e w' => e = .returned (.bool ny) ∧ Below w.heap.size w w')) (hI : Hid (∀ w, Calls Try.prog 33 #[] w fun e w' => e = .returned (.float .f64 z1) ∧ w' = w)) (n1 : ∀ w, (Op.unary UnOp.neg (.float .f64 z1)).run Try.prog w = .ok (.float .f64 z2) w) (t1 : (FloatKind.f64.format.order x1 x0 == some .lt) = b1) (t2 : (FloatKind.f64.format.order x1 z2 == some .eq) = b2) (t3 : (FloatKind.f64.format.order y0 y1 == some .lt) = b3) (t4 : (FloatKind.f64.format.order y1 z1 == some .eq) = b4) (w : World) :
    Calls Try.prog 16 #[.int .i64 2, iv lo hi, iv l2 h2] w fun e w' => e = .returned (.bool (nx || (!ny && (b1 || b2) && (b3 || b4)))) ∧ Below w.heap.size w w' := by
  have hst := run_store_float
  have hq := run_eq_float
  unfold iv at *
  go_enter Try.func16, Try.ntmps16
  go_wp2_with fail
  refine ((unhide hT1) _).mono ?_
  rintro e w1 ⟨rfl, hbw1⟩
  obtain ⟨w1c00, w1z00, w1c01, w1z01⟩ := bN hbw1 (w.heap.size) (by simp <;> omega)
  obtain ⟨w1c10, w1z10, w1c11, w1z11⟩ := bN hbw1 (w.heap.size + 1) (by simp <;> omega)
  simp [go_sem] at w1c00 w1z00 w1c01 w1z01 w1c10 w1z10 w1c11 w1z11
  have Sw1 := hbw1.size
  (try simp at Sw1)
  have Hw1 := hide (chainB (twoB w _ _) hbw1)
  clear hbw1
  go_wp2_with fail
  generalize hv1 : (w1.setCell ⟨w.heap.size, 0, none⟩ (.float .f64 x0)).setCell ⟨w.heap.size, 1, none⟩ (.float .f64 y0) = v1
  obtain ⟨v1c00, v1z00, v1c01, v1z01⟩ := bW hv1 w1c00 w1z00 w1c01 w1z01
  obtain ⟨v1c10, v1z10, v1c11, v1z11⟩ := bK hv1 (by omega) w1c10 w1z10 w1c11 w1z11
  have Hv1 := hide (bB hv1 (unhide Hw1) (by omega))
  have Sv1 := bS hv1 (show w.heap.size + 2 ≤ w1.heap.size by omega)
  clear hv1
  refine ((unhide hT2) _).mono ?_
  rintro e w2 ⟨rfl, hbw2⟩
  obtain ⟨w2c00, w2z00, w2c01, w2z01⟩ := bO (Below.refl _ _) hbw2 (by omega) v1c00 v1z00 v1c01 v1z01
  obtain ⟨w2c10, w2z10, w2c11, w2z11⟩ := bO (Below.refl _ _) hbw2 (by omega) v1c10 v1z10 v1c11 v1z11
  have Sw2 := hbw2.size
  (try simp at Sw2)
  have Hw2 := hide (chainB (chainB (unhide Hv1) (Below.refl _ _)) hbw2)
  clear hbw2
  go_wp2_with fail
  generalize hv2 : (w2.setCell ⟨w.heap.size + 1, 0, none⟩ (.float .f64 x1)).setCell ⟨w.heap.size + 1, 1, none⟩ (.float .f64 y1) = v2
  obtain ⟨v2c10, v2z10, v2c11, v2z11⟩ := bW hv2 w2c10 w2z10 w2c11 w2z11
  obtain ⟨v2c00, v2z00, v2c01, v2z01⟩ := bK hv2 (by omega) w2c00 w2z00 w2c01 w2z01
  have Hv2 := hide (bB hv2 (unhide Hw2) (by omega))
  have Sv2 := bS hv2 (show w.heap.size + 2 ≤ w2.heap.size by omega)
  clear hv2
  refine ((unhide hN1) _).mono ?_
  rintro e w3 ⟨rfl, hbw3⟩
  obtain ⟨w3c00, w3z00, w3c01, w3z01⟩ := bO (Below.refl _ _) hbw3 (by omega) v2c00 v2z00 v2c01 v2z01
  obtain ⟨w3c10, w3z10, w3c11, w3z11⟩ := bO (Below.refl _ _) hbw3 (by omega) v2c10 v2z10 v2c11 v2z11
  have Sw3 := hbw3.size
  (try simp at Sw3)
  have Hw3 := hide (chainB (chainB (unhide Hv2) (Below.refl _ _)) hbw3)
  clear hbw3
  go_wp2_with fail
  refine ((unhide hN2) _).mono ?_
  rintro e w4 ⟨rfl, hbw4⟩
  obtain ⟨w4c00, w4z00, w4c01, w4z01⟩ := bO (Below.refl _ _) hbw4 (by omega) w3c00 w3z00 w3c01 w3z01
  obtain ⟨w4c10, w4z10, w4c11, w4z11⟩ := bO (Below.refl _ _) hbw4 (by omega) w3c10 w3z10 w3c11 w3z11
  have Sw4 := hbw4.size
  (try simp at Sw4)
  have Hw4 := hide (chainB (chainB (unhide Hw3) (Below.refl _ _)) hbw4)
  clear hbw4
  cases nx
  · cases ny
    · cases b1
      · cases b2
        · go_wp2
          go_quiet (first | (go_at_call 33; refine Calls.quiet_of_same ((unhide hI) _)))
          go_wp2
          go_ret
          exact ⟨rfl, below_drewN (unhide Hw4) _⟩
        · cases b3
          · cases b4
            · go_wp2
              go_quiet (first | (go_at_call 33; refine Calls.quiet_of_same ((unhide hI) _)))
              go_wp2
              go_ret
              exact ⟨rfl, below_drewN (unhide Hw4) _⟩
            · go_wp2
              go_quiet (first | (go_at_call 33; refine Calls.quiet_of_same ((unhide hI) _)))
              go_wp2
              go_ret
              exact ⟨rfl, below_drewN (unhide Hw4) _⟩
          · go_wp2
            go_quiet (first | (go_at_call 33; refine Calls.quiet_of_same ((unhide hI) _)))
            go_wp2
            go_ret
            exact ⟨rfl, below_drewN (unhide Hw4) _⟩
      · cases b3
        · cases b4
          · go_wp2
            go_quiet (first | (go_at_call 33; refine Calls.quiet_of_same ((unhide hI) _)))
            go_wp2
            go_ret
            exact ⟨rfl, below_drewN (unhide Hw4) _⟩
          · go_wp2
            go_quiet (first | (go_at_call 33; refine Calls.quiet_of_same ((unhide hI) _)))
            go_wp2
            go_ret
            exact ⟨rfl, below_drewN (unhide Hw4) _⟩
        · go_wp2
          go_quiet (first | (go_at_call 33; refine Calls.quiet_of_same ((unhide hI) _)))
          go_wp2
          go_ret
          exact ⟨rfl, below_drewN (unhide Hw4) _⟩
    · go_wp2
      go_quiet (first | (go_at_call 33; refine Calls.quiet_of_same ((unhide hI) _)))
      go_wp2
      go_ret
      exact ⟨rfl, below_drewN (unhide Hw4) _⟩
  · go_wp2
    go_quiet (first | (go_at_call 33; refine Calls.quiet_of_same ((unhide hI) _)))
    go_wp2
    go_ret
    exact ⟨rfl, below_drewN (unhide Hw4) _⟩

set_option maxHeartbeats 8000000 in
theorem refIs_else (lo hi l2 h2 : Nat) {x0 y0 x1 y1 : Nat} {nx ny : Bool} {r : Int} (hT1 : Hid (∀ w, Calls Try.prog 31 #[iv lo hi] w fun e w' => e = .returned (iv x0 y0) ∧ Below w.heap.size w w')) (hT2 : Hid (∀ w, Calls Try.prog 31 #[iv l2 h2] w fun e w' => e = .returned (iv x1 y1) ∧ Below w.heap.size w w')) (hN1 : Hid (∀ w, Calls Try.prog 30 #[iv x0 y0] w fun e w' => e = .returned (.bool nx) ∧ Below w.heap.size w w')) (hN2 : Hid (∀ w, Calls Try.prog 30 #[iv x1 y1] w fun e w' => e = .returned (.bool ny) ∧ Below w.heap.size w w')) (h : r < 0 ∨ 6 ≤ r) (w : World) :
    Calls Try.prog 16 #[.int .i64 r, iv lo hi, iv l2 h2] w fun e w' => e = .returned (.bool false) ∧ Below w.heap.size w w' := by
  have hst := run_store_float
  have hq := run_eq_float
  unfold iv at *
  have b0 : (r == 0) = false := beq_eq_false_iff_ne.2 (by omega)
  have b1 : (r == 1) = false := beq_eq_false_iff_ne.2 (by omega)
  have b2 : (r == 2) = false := beq_eq_false_iff_ne.2 (by omega)
  have b3 : (r == 3) = false := beq_eq_false_iff_ne.2 (by omega)
  have b4 : (r == 4) = false := beq_eq_false_iff_ne.2 (by omega)
  have b5 : (r == 5) = false := beq_eq_false_iff_ne.2 (by omega)
  clear h
  go_enter Try.func16, Try.ntmps16
  go_wp2_with fail
  refine ((unhide hT1) _).mono ?_
  rintro e w1 ⟨rfl, hbw1⟩
  obtain ⟨w1c00, w1z00, w1c01, w1z01⟩ := bN hbw1 (w.heap.size) (by simp <;> omega)
  obtain ⟨w1c10, w1z10, w1c11, w1z11⟩ := bN hbw1 (w.heap.size + 1) (by simp <;> omega)
  simp [go_sem] at w1c00 w1z00 w1c01 w1z01 w1c10 w1z10 w1c11 w1z11
  have Sw1 := hbw1.size
  (try simp at Sw1)
  have Hw1 := hide (chainB (twoB w _ _) hbw1)
  clear hbw1
  go_wp2_with fail
  generalize hv1 : (w1.setCell ⟨w.heap.size, 0, none⟩ (.float .f64 x0)).setCell ⟨w.heap.size, 1, none⟩ (.float .f64 y0) = v1
  obtain ⟨v1c00, v1z00, v1c01, v1z01⟩ := bW hv1 w1c00 w1z00 w1c01 w1z01
  obtain ⟨v1c10, v1z10, v1c11, v1z11⟩ := bK hv1 (by omega) w1c10 w1z10 w1c11 w1z11
  have Hv1 := hide (bB hv1 (unhide Hw1) (by omega))
  have Sv1 := bS hv1 (show w.heap.size + 2 ≤ w1.heap.size by omega)
  clear hv1
  refine ((unhide hT2) _).mono ?_
  rintro e w2 ⟨rfl, hbw2⟩
  obtain ⟨w2c00, w2z00, w2c01, w2z01⟩ := bO (Below.refl _ _) hbw2 (by omega) v1c00 v1z00 v1c01 v1z01
  obtain ⟨w2c10, w2z10, w2c11, w2z11⟩ := bO (Below.refl _ _) hbw2 (by omega) v1c10 v1z10 v1c11 v1z11
  have Sw2 := hbw2.size
  (try simp at Sw2)
  have Hw2 := hide (chainB (chainB (unhide Hv1) (Below.refl _ _)) hbw2)
  clear hbw2
  go_wp2_with fail
  generalize hv2 : (w2.setCell ⟨w.heap.size + 1, 0, none⟩ (.float .f64 x1)).setCell ⟨w.heap.size + 1, 1, none⟩ (.float .f64 y1) = v2
  obtain ⟨v2c10, v2z10, v2c11, v2z11⟩ := bW hv2 w2c10 w2z10 w2c11 w2z11
  obtain ⟨v2c00, v2z00, v2c01, v2z01⟩ := bK hv2 (by omega) w2c00 w2z00 w2c01 w2z01
  have Hv2 := hide (bB hv2 (unhide Hw2) (by omega))
  have Sv2 := bS hv2 (show w.heap.size + 2 ≤ w2.heap.size by omega)
  clear hv2
  refine ((unhide hN1) _).mono ?_
  rintro e w3 ⟨rfl, hbw3⟩
  obtain ⟨w3c00, w3z00, w3c01, w3z01⟩ := bO (Below.refl _ _) hbw3 (by omega) v2c00 v2z00 v2c01 v2z01
  obtain ⟨w3c10, w3z10, w3c11, w3z11⟩ := bO (Below.refl _ _) hbw3 (by omega) v2c10 v2z10 v2c11 v2z11
  have Sw3 := hbw3.size
  (try simp at Sw3)
  have Hw3 := hide (chainB (chainB (unhide Hv2) (Below.refl _ _)) hbw3)
  clear hbw3
  go_wp2_with fail
  refine ((unhide hN2) _).mono ?_
  rintro e w4 ⟨rfl, hbw4⟩
  obtain ⟨w4c00, w4z00, w4c01, w4z01⟩ := bO (Below.refl _ _) hbw4 (by omega) w3c00 w3z00 w3c01 w3z01
  obtain ⟨w4c10, w4z10, w4c11, w4z11⟩ := bO (Below.refl _ _) hbw4 (by omega) w3c10 w3z10 w3c11 w3z11
  have Sw4 := hbw4.size
  (try simp at Sw4)
  have Hw4 := hide (chainB (chainB (unhide Hw3) (Below.refl _ _)) hbw4)
  clear hbw4
  go_wp2
  go_ret
  exact ⟨rfl, unhide Hw4⟩

end Go.Proofs.Ytibpnpigkbodeaa
