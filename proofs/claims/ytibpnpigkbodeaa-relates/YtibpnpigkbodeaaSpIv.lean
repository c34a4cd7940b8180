/-
  The program's intervals as they are taken: empty, hasNumbers, settled.
-/
import Derived.Test.YtibpnpigkbodeaaIv
import Derived.Test.YtibpnpigkbodeaaSpPl
import Derived.Deep.RegionWith
import Derived.Deep.QuietTactic
import Derived.BigQuiet
namespace Go.Proofs.Ytibpnpigkbodeaa
open Go.RowKit Flt

set_option maxHeartbeats 400000 in
theorem empty_walk (w : World) : Calls Try.prog 28 #[] w fun e w' => e = .returned (iv infW ninfW) ∧ Below w.heap.size w w' := by
  have hi := infP_walk
  have hn := infN_walk
  have hst := run_store_float
  unfold iv
  generalize infW = p at *
  generalize ninfW = q at *
  go_enter Try.func28, Try.ntmps28
  go_wp2_with (first | (go_at_call_of 38 (Value.int IntKind.i64 1); refine (hi _).mono ?_; rintro e w' ⟨rfl, rfl⟩) | (go_at_call 38; refine (hn _).mono ?_; rintro e w' ⟨rfl, rfl⟩))
  refine bodyPost_ret (v := .agg #[.float .f64 p, .float .f64 q]) (by simp [results, Try.results28, go_sem]) rfl ⟨rfl, below_one _ _⟩

set_option maxHeartbeats 1000000 in
theorem hasN_walk (lo hi : Nat) (hl : lo < 18446744073709551616) (hh : hi < 18446744073709551616) (w : World) :
    Calls Try.prog 37 #[iv lo hi] w fun e w' => e = .returned (.bool (hasB lo hi)) ∧ Below w.heap.size w w' := by
  have hst := run_store_float
  have hi' := infP_walk
  have hn := infN_walk
  have t1 := t_le hl hh
  have t2 := t_lt hl infW_lt
  have t3 := t_gt hh ninfW_lt
  unfold iv hasB
  generalize leB lo hi = p at *
  generalize ltB lo infW = q at *
  generalize ltB ninfW hi = r at *
  generalize infW = x at *
  generalize ninfW = y at *
  clear hl hh
  cases p
  · go_enter Try.func37, Try.ntmps37
    go_wp2
    go_quiet (first | (go_at_call_of 38 (Value.int IntKind.i64 1); refine Calls.quiet_of_same (hi' _)) | (go_at_call 38; refine Calls.quiet_of_same (hn _)))
    go_wp2
    go_ret
    exact ⟨rfl, below_drewN (below_one _ _) _⟩
  · cases q
    · go_enter Try.func37, Try.ntmps37
      go_wp2
      go_quiet (first | (go_at_call_of 38 (Value.int IntKind.i64 1); refine Calls.quiet_of_same (hi' _)) | (go_at_call 38; refine Calls.quiet_of_same (hn _)))
      go_wp2
      go_ret
      exact ⟨rfl, below_drewN (below_one _ _) _⟩
    · go_enter Try.func37, Try.ntmps37
      go_wp2
      go_quiet (first | (go_at_call_of 38 (Value.int IntKind.i64 1); refine Calls.quiet_of_same (hi' _)) | (go_at_call 38; refine Calls.quiet_of_same (hn _)))
      go_wp2
      go_ret
      exact ⟨rfl, below_drewN (below_one _ _) _⟩

end Go.Proofs.Ytibpnpigkbodeaa
