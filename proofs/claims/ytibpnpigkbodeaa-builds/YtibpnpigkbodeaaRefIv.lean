/-
  The reference's intervals as they are taken: inf, Empty, Good, No, Taken. (Written by tools/genrefiv.py.)
-/
import Derived.Test.YtibpnpigkbodeaaIv
import Derived.Test.YtibpnpigkbodeaaRefNxt
import Derived.Deep.RegionWith
import Derived.Deep.QuietTactic
import Derived.BigQuiet
namespace Go.Proofs.Ytibpnpigkbodeaa
open Go.RowKit Flt

theorem flip_inf : flip infW = ninfW := by decide

set_option maxHeartbeats 400000 in
theorem refInf_walk (w : World) : Calls Try.prog 33 #[] w fun e w' => e = .returned (.float .f64 infW) ∧ w' = w := by
  have hi := infP_walk
  generalize infW = p at *
  go_enter Try.func33, Try.ntmps33
  go_wp2_with (first | (go_at_call 38; refine (hi _).mono ?_; rintro e w0 ⟨rfl, rfl⟩))
  go_ret
  exact ⟨rfl, rfl⟩

set_option maxHeartbeats 400000 in
theorem refEmpty_walk (w : World) : Calls Try.prog 35 #[] w fun e w' => e = .returned (iv infW ninfW) ∧ Below w.heap.size w w' := by
  have hi := refInf_walk
  have hn := run_neg (P := Try.prog) infW_lt
  rw [flip_inf] at hn
  have hst := run_store_float
  unfold iv
  generalize infW = p at *
  generalize ninfW = q at *
  go_enter Try.func35, Try.ntmps35
  go_wp2_with (first | (go_at_call 33; refine (hi _).mono ?_; rintro e w0 ⟨rfl, rfl⟩))
  refine bodyPost_ret (v := .agg #[.float .f64 p, .float .f64 q]) (by simp [results, Try.results35, go_sem]) rfl ⟨rfl, below_one _ _⟩

set_option maxHeartbeats 4000000 in
theorem good_walk (lo hi : Nat) (hl : lo < 18446744073709551616) (hh : hi < 18446744073709551616) (w : World) :
    Calls Try.prog 29 #[iv lo hi] w fun e w' => e = .returned (.bool (goodB lo hi)) ∧ Below w.heap.size w w' := by
  have hst := run_store_float
  have hi := refInf_walk
  have hn := run_neg (P := Try.prog) infW_lt
  rw [flip_inf] at hn
  have t1 := t_eq hl infW_lt
  have t2 := t_eq hh ninfW_lt
  have t3 := t_le hl hh
  have t4 := t_lt hl infW_lt
  have t5 := t_gt hh ninfW_lt
  unfold iv goodB hasB
  generalize eqB lo infW = p1 at *
  generalize eqB _ ninfW = p2 at *
  generalize leB lo _ = p3 at *
  generalize ltB lo infW = p4 at *
  generalize ltB ninfW _ = p5 at *
  generalize infW = x at *
  generalize ninfW = y at *
  clear hl hh
  cases p1
  · cases p3
    · go_enter Try.func29, Try.ntmps29
      go_wp2
      go_quiet (first | (go_at_call 33; refine Calls.quiet_of_same (hi _)))
      go_wp2
      go_ret
      exact ⟨rfl, below_drewN (below_one _ _) _⟩
    · cases p4
      · go_enter Try.func29, Try.ntmps29
        go_wp2
        go_quiet (first | (go_at_call 33; refine Calls.quiet_of_same (hi _)))
        go_wp2
        go_ret
        exact ⟨rfl, below_drewN (below_one _ _) _⟩
      · go_enter Try.func29, Try.ntmps29
        go_wp2
        go_quiet (first | (go_at_call 33; refine Calls.quiet_of_same (hi _)))
        go_wp2
        go_ret
        exact ⟨rfl, below_drewN (below_one _ _) _⟩
  · cases p2
    · cases p3
      · go_enter Try.func29, Try.ntmps29
        go_wp2
        go_quiet (first | (go_at_call 33; refine Calls.quiet_of_same (hi _)))
        go_wp2
        go_ret
        exact ⟨rfl, below_drewN (below_one _ _) _⟩
      · cases p4
        · go_enter Try.func29, Try.ntmps29
          go_wp2
          go_quiet (first | (go_at_call 33; refine Calls.quiet_of_same (hi _)))
          go_wp2
          go_ret
          exact ⟨rfl, below_drewN (below_one _ _) _⟩
        · go_enter Try.func29, Try.ntmps29
          go_wp2
          go_quiet (first | (go_at_call 33; refine Calls.quiet_of_same (hi _)))
          go_wp2
          go_ret
          exact ⟨rfl, below_drewN (below_one _ _) _⟩
    · go_enter Try.func29, Try.ntmps29
      go_wp2
      go_quiet (first | (go_at_call 33; refine Calls.quiet_of_same (hi _)))
      go_wp2
      go_ret
      exact ⟨rfl, below_drewN (below_one _ _) _⟩

set_option maxHeartbeats 400000 in
theorem no_walk (lo hi : Nat) (hl : lo < 18446744073709551616) (hh : hi < 18446744073709551616) (w : World) :
    Calls Try.prog 30 #[iv lo hi] w fun e w' => e = .returned (.bool (ltB hi lo)) ∧ Below w.heap.size w w' := by
  have hst := run_store_float
  have t := t_gt hl hh
  unfold iv
  generalize ltB hi lo = p at *
  clear hl hh
  go_enter Try.func30, Try.ntmps30
  go_wp2
  go_ret
  exact ⟨rfl, below_one _ _⟩

set_option maxHeartbeats 1000000 in
theorem taken_walk (lo hi : Nat) (hl : lo < 18446744073709551616) (hh : hi < 18446744073709551616) (w : World) :
    Calls Try.prog 31 #[iv lo hi] w fun e w' => e = .returned (iv (loB lo hi) (hiB lo hi)) ∧ Below w.heap.size w w' := by
  have hst := run_store_float
  have hH := hide (fun w => good_walk lo hi hl hh w)
  have hE := hide refEmpty_walk
  have hP := hide (fun w => plain_walk lo hl w)
  have hQ := hide (fun w => plain_walk hi hh w)
  rw [← taken_lo (hi := hi) hl, ← taken_hi (lo := lo) hh]
  clear hl hh
  generalize plainB lo = pl at *
  generalize plainB hi = ph at *
  generalize infW = x at *
  generalize ninfW = y at *
  unfold iv at *
  cases h : goodB lo hi
  · rw [h] at hH
    clear h
    rw [if_neg (by decide), if_neg (by decide)]
    go_enter Try.func31, Try.ntmps31
    go_wp2_with (first | (go_at_call 29; refine ((unhide hH) _).mono ?_; rintro e w1 ⟨rfl, hbw1⟩; obtain ⟨w1c00, w1z00, w1c01, w1z01⟩ := bN hbw1 (w.heap.size) (by simp <;> omega); obtain ⟨w1c10, w1z10, w1c11, w1z11⟩ := bN hbw1 (w.heap.size + 1) (by simp <;> omega); simp [go_sem] at w1c00 w1z00 w1c01 w1z01 w1c10 w1z10 w1c11 w1z11; have Sw1 := hbw1.size; (try simp at Sw1); have Hw1 := hide (chainB (twoB w _ _) hbw1); clear hbw1) | (go_at_call 35; refine ((unhide hE) _).mono ?_; rintro e w2 ⟨rfl, hbw2⟩; obtain ⟨w2c10, w2z10, w2c11, w2z11⟩ := bO (Below.refl _ _) hbw2 (by omega) w1c10 w1z10 w1c11 w1z11; have Sw2 := hbw2.size; (try simp at Sw2); have Hw2 := hide (chainB (chainB (unhide Hw1) (Below.refl _ _)) hbw2); clear hbw2))
    refine bodyPost_ret (v := .agg #[.float .f64 x, .float .f64 y]) (by simp [results, Try.results31, go_sem, w2c10, w2c11]) rfl ⟨rfl, set2B (unhide Hw2) (by omega) _ _⟩
  · rw [h] at hH
    clear h
    rw [if_pos rfl, if_pos rfl]
    go_enter Try.func31, Try.ntmps31
    go_wp2_with (first | (go_at_call 29; refine ((unhide hH) _).mono ?_; rintro e w1 ⟨rfl, hbw1⟩; obtain ⟨w1c00, w1z00, w1c01, w1z01⟩ := bN hbw1 (w.heap.size) (by simp <;> omega); obtain ⟨w1c10, w1z10, w1c11, w1z11⟩ := bN hbw1 (w.heap.size + 1) (by simp <;> omega); simp [go_sem] at w1c00 w1z00 w1c01 w1z01 w1c10 w1z10 w1c11 w1z11; have Sw1 := hbw1.size; (try simp at Sw1); have Hw1 := hide (chainB (twoB w _ _) hbw1); clear hbw1))
    go_region_with (first | (go_at_call_of 26 (Value.float FloatKind.f64 lo); refine ((unhide hP) _).mono ?_; rintro e w0 ⟨rfl, rfl⟩) | (go_at_call 26; refine ((unhide hQ) _).mono ?_; rintro e w0 ⟨rfl, rfl⟩))
    all_goals (go_wp2; refine bodyPost_ret (v := .agg #[.float .f64 pl, .float .f64 ph]) (by simp [results, Try.results31, go_sem, w1c10, w1c11]) rfl ⟨rfl, set2B (unhide Hw1).drew (by omega) _ _⟩)

end Go.Proofs.Ytibpnpigkbodeaa
