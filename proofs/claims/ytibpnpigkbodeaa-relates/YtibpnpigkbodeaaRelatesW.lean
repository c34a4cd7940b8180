/-
  The law Relates: of any two intervals (and what is none) the program's Meet, Hull and Is are the reference's. (Written by tools/genrelates.py.)
-/
import Derived.Test.YtibpnpigkbodeaaRel
import Derived.Test.YtibpnpigkbodeaaAlike
namespace Go.Proofs.Ytibpnpigkbodeaa
open Go.RowKit Flt

/-- The law's two boxes. -/
structure LR (w W : World) (x y u v : Nat) : Prop where
  c00 : W.cell? ⟨w.heap.size, 0, none⟩ = some (.float .f64 x)
  c01 : W.cell? ⟨w.heap.size, 1, none⟩ = some (.float .f64 y)
  c10 : W.cell? ⟨w.heap.size + 1, 0, none⟩ = some (.float .f64 u)
  c11 : W.cell? ⟨w.heap.size + 1, 1, none⟩ = some (.float .f64 v)
  bel : Below w.heap.size w W
  sz : w.heap.size + 2 ≤ W.heap.size
theorem LR.step {w W W' : World} {x y u v : Nat} (h : LR w W x y u v) (hb : Below W.heap.size W W') : LR w W' x y u v := by
  have h1 := h.sz
  have h3 := hb.size
  refine ⟨?_, ?_, ?_, ?_, chainB h.bel hb, by omega⟩
  · rw [hb.cell (by show _ < _; simp <;> omega)]; exact h.c00
  · rw [hb.cell (by show _ < _; simp <;> omega)]; exact h.c01
  · rw [hb.cell (by show _ < _; simp <;> omega)]; exact h.c10
  · rw [hb.cell (by show _ < _; simp <;> omega)]; exact h.c11

set_option maxHeartbeats 4000000 in
theorem relates_core (a0 a1 a2 a3 a4 : Int) {x y u v p q r s : Nat} (hx : a0.toNat = x) (hy : a1.toNat = y) (hu : a2.toNat = u) (hv : a3.toNat = v)
    (hB : Hid (∀ r : Int, ∃ b : Bool, (∀ w, Calls Try.prog 15 #[.int .i64 r, iv x y, iv u v] w fun e w' => e = .returned (.bool b) ∧ Below w.heap.size w w') ∧ (∀ w, Calls Try.prog 16 #[.int .i64 r, iv x y, iv u v] w fun e w' => e = .returned (.bool b) ∧ Below w.heap.size w w')))
    (hM1 : Hid (∀ w, Calls Try.prog 17 #[iv x y, iv u v] w fun e w' => e = .returned (iv p q) ∧ Below w.heap.size w w')) (hM2 : Hid (∀ w, Calls Try.prog 18 #[iv x y, iv u v] w fun e w' => e = .returned (iv p q) ∧ Below w.heap.size w w')) (hH1 : Hid (∀ w, Calls Try.prog 19 #[iv x y, iv u v] w fun e w' => e = .returned (iv r s) ∧ Below w.heap.size w w')) (hH2 : Hid (∀ w, Calls Try.prog 20 #[iv x y, iv u v] w fun e w' => e = .returned (iv r s) ∧ Below w.heap.size w w')) (hA1 : Hid (∀ w, Calls Try.prog 14 #[iv p q, iv p q] w fun e w' => e = .returned (.bool true) ∧ Below w.heap.size w w')) (hA2 : Hid (∀ w, Calls Try.prog 14 #[iv r s, iv r s] w fun e w' => e = .returned (.bool true) ∧ Below w.heap.size w w')) (w : World) :
    Calls Try.prog 5 #[.int .u64 a0, .int .u64 a1, .int .u64 a2, .int .u64 a3, .int .i64 a4] w fun e w' => e = .returned (.bool true) ∧ Below w.heap.size w w' := by
  have hst := run_store_float
  go_enter Try.func5, Try.ntmps5
  go_wp2_with (first | (go_at_call 6; refine (of_walk _ _).mono ?_; rintro e w0 ⟨rfl, h0⟩; have h1 := h0.symm; subst h1))
  go_loopw [13] (fun i wr => ∃ k : Nat, k ≤ 9 ∧ i = .int .i64 ((k : Int) - 1) ∧ LR w wr x y u v) (fun i _ => 9 - (intOf i + 1).toNat)
  case atStart => exact ⟨0, by omega, rfl, by simp [go_sem], by simp [go_sem], by simp [go_sem], by simp [go_sem], twoB _ _ _, by simp⟩
  case round =>
    obtain ⟨k, hk, rfl, hL⟩ := hrel
    rcases Nat.lt_or_ge k 9 with h17 | h17
    · rcases Nat.eq_zero_or_pos k with hz | hz
      · have hlt : (k : Int) - 1 < 8 := by omega
        have hng : (k : Int) - 1 < 0 := by omega
        obtain ⟨b, G1, G2⟩ := unhide hB (a4)
        have hG1 := hide G1
        have hG2 := hide G2
        clear G1 G2
        unfold iv at *
        have L0 := hide hL
        have c00 := hL.c00
        have c01 := hL.c01
        have c10 := hL.c10
        have c11 := hL.c11
        clear hL
        go_wp2_with fail
        refine ((unhide hG1) _).mono ?_
        rintro e w1 ⟨rfl, hb1⟩
        have L1 := hide ((unhide L0).step hb1)
        have d00 := (unhide L1).c00
        have d01 := (unhide L1).c01
        have d10 := (unhide L1).c10
        have d11 := (unhide L1).c11
        clear hb1
        go_wp2_with fail
        refine ((unhide hG2) _).mono ?_
        rintro e w2 ⟨rfl, hb2⟩
        have L2 := hide ((unhide L1).step hb2)
        clear hb2
        go_wp2
        go_roundw
        case rel => exact ⟨k + 1, by omega, congrArg (Value.int .i64) (by omega), unhide L2⟩
        case measure =>
          simp [intOf]
          omega
      · have hlt : (k : Int) - 1 < 8 := by omega
        have hng : decide ((k : Int) - 1 < 0) = false := decide_eq_false (by omega)
        obtain ⟨b, G1, G2⟩ := unhide hB ((k : Int) - 1)
        have hG1 := hide G1
        have hG2 := hide G2
        clear G1 G2
        unfold iv at *
        have L0 := hide hL
        have c00 := hL.c00
        have c01 := hL.c01
        have c10 := hL.c10
        have c11 := hL.c11
        clear hL
        go_wp2_with fail
        refine ((unhide hG1) _).mono ?_
        rintro e w1 ⟨rfl, hb1⟩
        have L1 := hide ((unhide L0).step hb1)
        have d00 := (unhide L1).c00
        have d01 := (unhide L1).c01
        have d10 := (unhide L1).c10
        have d11 := (unhide L1).c11
        clear hb1
        go_wp2_with fail
        refine ((unhide hG2) _).mono ?_
        rintro e w2 ⟨rfl, hb2⟩
        have L2 := hide ((unhide L1).step hb2)
        clear hb2
        go_wp2
        go_roundw
        case rel => exact ⟨k + 1, by omega, congrArg (Value.int .i64) (by omega), unhide L2⟩
        case measure =>
          simp [intOf]
          omega
    · have hlt : decide ((k : Int) - 1 < 8) = false := decide_eq_false (by omega)
      clear hB
      unfold iv at *
      have S0 := hL.sz
      have H0 := hide hL.bel
      have w0cx0 := hL.c00
      have w0cx1 := hL.c01
      have w0cy0 := hL.c10
      have w0cy1 := hL.c11
      clear hL
      go_wp2_with fail
      refine ((unhide hM1) _).mono ?_
      rintro e w1 ⟨rfl, hb1⟩
      have w1cx0 := old_cell (p := ⟨w.heap.size, 0, none⟩) (Below.refl _ _) hb1 (by simp <;> omega) w0cx0
      have w1cx1 := old_cell (p := ⟨w.heap.size, 1, none⟩) (Below.refl _ _) hb1 (by simp <;> omega) w0cx1
      have w1cy0 := old_cell (p := ⟨w.heap.size + 1, 0, none⟩) (Below.refl _ _) hb1 (by simp <;> omega) w0cy0
      have w1cy1 := old_cell (p := ⟨w.heap.size + 1, 1, none⟩) (Below.refl _ _) hb1 (by simp <;> omega) w0cy1
      have S1 := hb1.size
      (try simp at S1)
      have H1 := hide (chainB (chainB (unhide H0) (Below.refl _ _)) hb1)
      clear hb1
      have w1dx0 := fun o => alloc_cell (p := ⟨w.heap.size, 0, none⟩) o (by simp <;> omega) w1cx0
      have w1dx1 := fun o => alloc_cell (p := ⟨w.heap.size, 1, none⟩) o (by simp <;> omega) w1cx1
      have w1dy0 := fun o => alloc_cell (p := ⟨w.heap.size + 1, 0, none⟩) o (by simp <;> omega) w1cy0
      have w1dy1 := fun o => alloc_cell (p := ⟨w.heap.size + 1, 1, none⟩) o (by simp <;> omega) w1cy1
      go_wp2_with fail
      refine ((unhide hM2) _).mono ?_
      rintro e w2 ⟨rfl, hb2⟩
      have w2cx0 := old_cell (p := ⟨w.heap.size, 0, none⟩) (below_one w1 _) hb2 (by simp <;> omega) w1cx0
      have w2cx1 := old_cell (p := ⟨w.heap.size, 1, none⟩) (below_one w1 _) hb2 (by simp <;> omega) w1cx1
      have w2cy0 := old_cell (p := ⟨w.heap.size + 1, 0, none⟩) (below_one w1 _) hb2 (by simp <;> omega) w1cy0
      have w2cy1 := old_cell (p := ⟨w.heap.size + 1, 1, none⟩) (below_one w1 _) hb2 (by simp <;> omega) w1cy1
      have w2cm0 := hb2.cell (p := ⟨w1.heap.size, 0, none⟩) (by simp <;> omega)
      have w2cm1 := hb2.cell (p := ⟨w1.heap.size, 1, none⟩) (by simp <;> omega)
      simp [go_sem] at w2cm0 w2cm1
      have S2 := hb2.size
      (try simp at S2)
      have H2 := hide (chainB (chainB (unhide H1) (below_one w1 _)) hb2)
      clear hb2
      have w2dx0 := fun o => alloc_cell (p := ⟨w.heap.size, 0, none⟩) o (by simp <;> omega) w2cx0
      have w2dx1 := fun o => alloc_cell (p := ⟨w.heap.size, 1, none⟩) o (by simp <;> omega) w2cx1
      have w2dy0 := fun o => alloc_cell (p := ⟨w.heap.size + 1, 0, none⟩) o (by simp <;> omega) w2cy0
      have w2dy1 := fun o => alloc_cell (p := ⟨w.heap.size + 1, 1, none⟩) o (by simp <;> omega) w2cy1
      have w2dm0 := fun o => alloc_cell (p := ⟨w1.heap.size, 0, none⟩) o (by simp <;> omega) w2cm0
      have w2dm1 := fun o => alloc_cell (p := ⟨w1.heap.size, 1, none⟩) o (by simp <;> omega) w2cm1
      go_wp2_with fail
      refine ((unhide hH1) _).mono ?_
      rintro e w3 ⟨rfl, hb3⟩
      have w3cx0 := old_cell (p := ⟨w.heap.size, 0, none⟩) (below_one w2 _) hb3 (by simp <;> omega) w2cx0
      have w3cx1 := old_cell (p := ⟨w.heap.size, 1, none⟩) (below_one w2 _) hb3 (by simp <;> omega) w2cx1
      have w3cy0 := old_cell (p := ⟨w.heap.size + 1, 0, none⟩) (below_one w2 _) hb3 (by simp <;> omega) w2cy0
      have w3cy1 := old_cell (p := ⟨w.heap.size + 1, 1, none⟩) (below_one w2 _) hb3 (by simp <;> omega) w2cy1
      have w3cm0 := old_cell (p := ⟨w1.heap.size, 0, none⟩) (below_one w2 _) hb3 (by simp <;> omega) w2cm0
      have w3cm1 := old_cell (p := ⟨w1.heap.size, 1, none⟩) (below_one w2 _) hb3 (by simp <;> omega) w2cm1
      have w3cn0 := hb3.cell (p := ⟨w2.heap.size, 0, none⟩) (by simp <;> omega)
      have w3cn1 := hb3.cell (p := ⟨w2.heap.size, 1, none⟩) (by simp <;> omega)
      simp [go_sem] at w3cn0 w3cn1
      have S3 := hb3.size
      (try simp at S3)
      have H3 := hide (chainB (chainB (unhide H2) (below_one w2 _)) hb3)
      clear hb3
      have w3dx0 := fun o => alloc_cell (p := ⟨w.heap.size, 0, none⟩) o (by simp <;> omega) w3cx0
      have w3dx1 := fun o => alloc_cell (p := ⟨w.heap.size, 1, none⟩) o (by simp <;> omega) w3cx1
      have w3dy0 := fun o => alloc_cell (p := ⟨w.heap.size + 1, 0, none⟩) o (by simp <;> omega) w3cy0
      have w3dy1 := fun o => alloc_cell (p := ⟨w.heap.size + 1, 1, none⟩) o (by simp <;> omega) w3cy1
      have w3dm0 := fun o => alloc_cell (p := ⟨w1.heap.size, 0, none⟩) o (by simp <;> omega) w3cm0
      have w3dm1 := fun o => alloc_cell (p := ⟨w1.heap.size, 1, none⟩) o (by simp <;> omega) w3cm1
      have w3dn0 := fun o => alloc_cell (p := ⟨w2.heap.size, 0, none⟩) o (by simp <;> omega) w3cn0
      have w3dn1 := fun o => alloc_cell (p := ⟨w2.heap.size, 1, none⟩) o (by simp <;> omega) w3cn1
      go_wp2_with fail
      refine ((unhide hH2) _).mono ?_
      rintro e w4 ⟨rfl, hb4⟩
      have w4cx0 := old_cell (p := ⟨w.heap.size, 0, none⟩) (below_one w3 _) hb4 (by simp <;> omega) w3cx0
      have w4cx1 := old_cell (p := ⟨w.heap.size, 1, none⟩) (below_one w3 _) hb4 (by simp <;> omega) w3cx1
      have w4cy0 := old_cell (p := ⟨w.heap.size + 1, 0, none⟩) (below_one w3 _) hb4 (by simp <;> omega) w3cy0
      have w4cy1 := old_cell (p := ⟨w.heap.size + 1, 1, none⟩) (below_one w3 _) hb4 (by simp <;> omega) w3cy1
      have w4cm0 := old_cell (p := ⟨w1.heap.size, 0, none⟩) (below_one w3 _) hb4 (by simp <;> omega) w3cm0
      have w4cm1 := old_cell (p := ⟨w1.heap.size, 1, none⟩) (below_one w3 _) hb4 (by simp <;> omega) w3cm1
      have w4cn0 := old_cell (p := ⟨w2.heap.size, 0, none⟩) (below_one w3 _) hb4 (by simp <;> omega) w3cn0
      have w4cn1 := old_cell (p := ⟨w2.heap.size, 1, none⟩) (below_one w3 _) hb4 (by simp <;> omega) w3cn1
      have w4ch0 := hb4.cell (p := ⟨w3.heap.size, 0, none⟩) (by simp <;> omega)
      have w4ch1 := hb4.cell (p := ⟨w3.heap.size, 1, none⟩) (by simp <;> omega)
      simp [go_sem] at w4ch0 w4ch1
      have S4 := hb4.size
      (try simp at S4)
      have H4 := hide (chainB (chainB (unhide H3) (below_one w3 _)) hb4)
      clear hb4
      have w4dx0 := fun o => alloc_cell (p := ⟨w.heap.size, 0, none⟩) o (by simp <;> omega) w4cx0
      have w4dx1 := fun o => alloc_cell (p := ⟨w.heap.size, 1, none⟩) o (by simp <;> omega) w4cx1
      have w4dy0 := fun o => alloc_cell (p := ⟨w.heap.size + 1, 0, none⟩) o (by simp <;> omega) w4cy0
      have w4dy1 := fun o => alloc_cell (p := ⟨w.heap.size + 1, 1, none⟩) o (by simp <;> omega) w4cy1
      have w4dm0 := fun o => alloc_cell (p := ⟨w1.heap.size, 0, none⟩) o (by simp <;> omega) w4cm0
      have w4dm1 := fun o => alloc_cell (p := ⟨w1.heap.size, 1, none⟩) o (by simp <;> omega) w4cm1
      have w4dn0 := fun o => alloc_cell (p := ⟨w2.heap.size, 0, none⟩) o (by simp <;> omega) w4cn0
      have w4dn1 := fun o => alloc_cell (p := ⟨w2.heap.size, 1, none⟩) o (by simp <;> omega) w4cn1
      have w4dh0 := fun o => alloc_cell (p := ⟨w3.heap.size, 0, none⟩) o (by simp <;> omega) w4ch0
      have w4dh1 := fun o => alloc_cell (p := ⟨w3.heap.size, 1, none⟩) o (by simp <;> omega) w4ch1
      go_wp2_with fail
      refine ((unhide hA1) _).mono ?_
      rintro e w5 ⟨rfl, hb5⟩
      have w5cm0 := old_cell (p := ⟨w1.heap.size, 0, none⟩) (below_one w4 _) hb5 (by simp <;> omega) w4cm0
      have w5cm1 := old_cell (p := ⟨w1.heap.size, 1, none⟩) (below_one w4 _) hb5 (by simp <;> omega) w4cm1
      have w5cn0 := old_cell (p := ⟨w2.heap.size, 0, none⟩) (below_one w4 _) hb5 (by simp <;> omega) w4cn0
      have w5cn1 := old_cell (p := ⟨w2.heap.size, 1, none⟩) (below_one w4 _) hb5 (by simp <;> omega) w4cn1
      have w5ch0 := old_cell (p := ⟨w3.heap.size, 0, none⟩) (below_one w4 _) hb5 (by simp <;> omega) w4ch0
      have w5ch1 := old_cell (p := ⟨w3.heap.size, 1, none⟩) (below_one w4 _) hb5 (by simp <;> omega) w4ch1
      have w5cg0 := hb5.cell (p := ⟨w4.heap.size, 0, none⟩) (by simp <;> omega)
      have w5cg1 := hb5.cell (p := ⟨w4.heap.size, 1, none⟩) (by simp <;> omega)
      simp [go_sem] at w5cg0 w5cg1
      have S5 := hb5.size
      (try simp at S5)
      have H5 := hide (chainB (chainB (unhide H4) (below_one w4 _)) hb5)
      clear hb5
      have w5dm0 := fun o => alloc_cell (p := ⟨w1.heap.size, 0, none⟩) o (by simp <;> omega) w5cm0
      have w5dm1 := fun o => alloc_cell (p := ⟨w1.heap.size, 1, none⟩) o (by simp <;> omega) w5cm1
      have w5dn0 := fun o => alloc_cell (p := ⟨w2.heap.size, 0, none⟩) o (by simp <;> omega) w5cn0
      have w5dn1 := fun o => alloc_cell (p := ⟨w2.heap.size, 1, none⟩) o (by simp <;> omega) w5cn1
      have w5dh0 := fun o => alloc_cell (p := ⟨w3.heap.size, 0, none⟩) o (by simp <;> omega) w5ch0
      have w5dh1 := fun o => alloc_cell (p := ⟨w3.heap.size, 1, none⟩) o (by simp <;> omega) w5ch1
      have w5dg0 := fun o => alloc_cell (p := ⟨w4.heap.size, 0, none⟩) o (by simp <;> omega) w5cg0
      have w5dg1 := fun o => alloc_cell (p := ⟨w4.heap.size, 1, none⟩) o (by simp <;> omega) w5cg1
      go_wp2_with fail
      refine ((unhide hA2) _).mono ?_
      rintro e w6 ⟨rfl, hb6⟩
      have w6ch0 := old_cell (p := ⟨w3.heap.size, 0, none⟩) (Below.refl _ _) hb6 (by simp <;> omega) w5ch0
      have w6ch1 := old_cell (p := ⟨w3.heap.size, 1, none⟩) (Below.refl _ _) hb6 (by simp <;> omega) w5ch1
      have w6cg0 := old_cell (p := ⟨w4.heap.size, 0, none⟩) (Below.refl _ _) hb6 (by simp <;> omega) w5cg0
      have w6cg1 := old_cell (p := ⟨w4.heap.size, 1, none⟩) (Below.refl _ _) hb6 (by simp <;> omega) w5cg1
      have S6 := hb6.size
      (try simp at S6)
      have H6 := hide (chainB (chainB (unhide H5) (Below.refl _ _)) hb6)
      clear hb6
      have w6dh0 := fun o => alloc_cell (p := ⟨w3.heap.size, 0, none⟩) o (by simp <;> omega) w6ch0
      have w6dh1 := fun o => alloc_cell (p := ⟨w3.heap.size, 1, none⟩) o (by simp <;> omega) w6ch1
      have w6dg0 := fun o => alloc_cell (p := ⟨w4.heap.size, 0, none⟩) o (by simp <;> omega) w6cg0
      have w6dg1 := fun o => alloc_cell (p := ⟨w4.heap.size, 1, none⟩) o (by simp <;> omega) w6cg1
      go_wp2
      go_ret
      exact ⟨rfl, unhide H6⟩

theorem relates_walk (a0 a1 a2 a3 a4 : Int) (h0 : 0 ≤ a0 ∧ a0 ≤ 18446744073709551615) (h1 : 0 ≤ a1 ∧ a1 ≤ 18446744073709551615) (h2 : 0 ≤ a2 ∧ a2 ≤ 18446744073709551615) (h3 : 0 ≤ a3 ∧ a3 ≤ 18446744073709551615) (w : World) :
    Calls Try.prog 5 #[.int .u64 a0, .int .u64 a1, .int .u64 a2, .int .u64 a3, .int .i64 a4] w fun e w' => e = .returned (.bool true) ∧ Below w.heap.size w w' := by
  obtain ⟨x, hx⟩ : ∃ x : Nat, a0.toNat = x := ⟨_, rfl⟩
  obtain ⟨y, hy⟩ : ∃ x : Nat, a1.toNat = x := ⟨_, rfl⟩
  obtain ⟨u, hu⟩ : ∃ x : Nat, a2.toNat = x := ⟨_, rfl⟩
  obtain ⟨v, hv⟩ : ∃ x : Nat, a3.toNat = x := ⟨_, rfl⟩
  have lx : x < 18446744073709551616 := by omega
  have ly : y < 18446744073709551616 := by omega
  have lu : u < 18446744073709551616 := by omega
  have lv : v < 18446744073709551616 := by omega
  have a := tk_of lx ly
  have b := tk_of lu lv
  have m := meet_tk a b
  have t := hull_tk a b
  refine relates_core a0 a1 a2 a3 a4 hx hy hu hv (hide fun r => ⟨isP r (loB x y) (hiB x y) (loB u v) (hiB u v), fun w => spIs_walk r lx ly lu lv w, fun w => ?_⟩) (hide fun w => spMeet_walk lx ly lu lv w) (hide fun w => refMeet_walk lx ly lu lv w) (hide fun w => spHull_walk lx ly lu lv w) (hide fun w => refHull_walk lx ly lu lv w)
    (hide fun w => alike_walk _ _ m.l.lt m.h.lt m.l.nan m.h.nan w) (hide fun w => alike_walk _ _ t.l.lt t.h.lt t.l.nan t.h.nan w) w
  rw [is_same r a b]
  exact refIs_walk r lx ly lu lv w

end Go.Proofs.Ytibpnpigkbodeaa
