/-
  isInterior of the program, over letters. (Written by tools/genrel.py.)
-/
import Derived.Test.YtibpnpigkbodeaaSpSet
import Derived.Test.YtibpnpigkbodeaaMx
import Derived.Deep.RegionHeld3
namespace Go.Proofs.Ytibpnpigkbodeaa
open Go.RowKit Flt
set_option linter.unusedVariables false      -- the cases share one head: not every case uses every name of it

set_option maxHeartbeats 8000000 in
theorem inside_core {x0 y0 x1 y1 z1 z2 : Nat} {b1 b2 b3 b4 : Bool} (hi : Hid (∀ w, Calls Try.prog 38 #[.int .i64 1] w fun e w' => e = .returned (.float .f64 z1) ∧ w' = w)) (hn : Hid (∀ w, Calls Try.prog 38 #[.int .i64 (-1)] w fun e w' => e = .returned (.float .f64 z2) ∧ w' = w)) (t1 : (FloatKind.f64.format.order x1 x0 == some .lt) = b1) (t2 : (FloatKind.f64.format.order x1 z2 == some .eq) = b2) (t3 : (FloatKind.f64.format.order y1 y0 == some .gt) = b3) (t4 : (FloatKind.f64.format.order y1 z1 == some .eq) = b4) (w : World) :
    Calls Try.prog 32 #[iv x0 y0, iv x1 y1] w fun e w' => e = .returned (.bool ((b1 || b2) && (b3 || b4))) ∧ Below w.heap.size w w' := by
  have hst := run_store_float
  unfold iv at *
  cases b1
  · cases b2
    · cases b3
      · go_enter Try.func32, Try.ntmps32
        go_wp2
        go_quiet (first | (go_at_call_of 38 (Value.int IntKind.i64 1); refine Calls.quiet_of_same ((unhide hi) _)) | (go_at_call 38; refine Calls.quiet_of_same ((unhide hn) _)))
        go_wp2
        go_quiet (first | (go_at_call_of 38 (Value.int IntKind.i64 1); refine Calls.quiet_of_same ((unhide hi) _)) | (go_at_call_of 38 (Value.int IntKind.i64 1); refine ((unhide hi) _).mono ?_; rintro e w0 ⟨rfl, rfl⟩; exact ⟨rfl, _, rfl⟩))
        go_wp2
        go_ret
        exact ⟨by simp, below_drewN (twoB _ _ _) _⟩
      · go_enter Try.func32, Try.ntmps32
        go_wp2
        go_quiet (first | (go_at_call_of 38 (Value.int IntKind.i64 1); refine Calls.quiet_of_same ((unhide hi) _)) | (go_at_call 38; refine Calls.quiet_of_same ((unhide hn) _)))
        go_wp2
        go_quiet (first | (go_at_call_of 38 (Value.int IntKind.i64 1); refine Calls.quiet_of_same ((unhide hi) _)) | (go_at_call_of 38 (Value.int IntKind.i64 1); refine ((unhide hi) _).mono ?_; rintro e w0 ⟨rfl, rfl⟩; exact ⟨rfl, _, rfl⟩))
        go_wp2
        go_ret
        exact ⟨by simp, below_drewN (twoB _ _ _) _⟩
    · cases b3
      · go_enter Try.func32, Try.ntmps32
        go_wp2
        go_quiet (first | (go_at_call_of 38 (Value.int IntKind.i64 1); refine Calls.quiet_of_same ((unhide hi) _)) | (go_at_call 38; refine Calls.quiet_of_same ((unhide hn) _)))
        go_wp2
        go_quiet (first | (go_at_call_of 38 (Value.int IntKind.i64 1); refine Calls.quiet_of_same ((unhide hi) _)) | (go_at_call_of 38 (Value.int IntKind.i64 1); refine ((unhide hi) _).mono ?_; rintro e w0 ⟨rfl, rfl⟩; exact ⟨rfl, _, rfl⟩))
        go_wp2
        go_ret
        exact ⟨by simp, below_drewN (twoB _ _ _) _⟩
      · go_enter Try.func32, Try.ntmps32
        go_wp2
        go_quiet (first | (go_at_call_of 38 (Value.int IntKind.i64 1); refine Calls.quiet_of_same ((unhide hi) _)) | (go_at_call 38; refine Calls.quiet_of_same ((unhide hn) _)))
        go_wp2
        go_quiet (first | (go_at_call_of 38 (Value.int IntKind.i64 1); refine Calls.quiet_of_same ((unhide hi) _)) | (go_at_call_of 38 (Value.int IntKind.i64 1); refine ((unhide hi) _).mono ?_; rintro e w0 ⟨rfl, rfl⟩; exact ⟨rfl, _, rfl⟩))
        go_wp2
        go_ret
        exact ⟨by simp, below_drewN (twoB _ _ _) _⟩
  · cases b2
    · cases b3
      · go_enter Try.func32, Try.ntmps32
        go_wp2
        go_quiet (first | (go_at_call_of 38 (Value.int IntKind.i64 1); refine Calls.quiet_of_same ((unhide hi) _)) | (go_at_call 38; refine Calls.quiet_of_same ((unhide hn) _)))
        go_wp2
        go_quiet (first | (go_at_call_of 38 (Value.int IntKind.i64 1); refine Calls.quiet_of_same ((unhide hi) _)) | (go_at_call_of 38 (Value.int IntKind.i64 1); refine ((unhide hi) _).mono ?_; rintro e w0 ⟨rfl, rfl⟩; exact ⟨rfl, _, rfl⟩))
        go_wp2
        go_ret
        exact ⟨by simp, below_drewN (twoB _ _ _) _⟩
      · go_enter Try.func32, Try.ntmps32
        go_wp2
        go_quiet (first | (go_at_call_of 38 (Value.int IntKind.i64 1); refine Calls.quiet_of_same ((unhide hi) _)) | (go_at_call 38; refine Calls.quiet_of_same ((unhide hn) _)))
        go_wp2
        go_quiet (first | (go_at_call_of 38 (Value.int IntKind.i64 1); refine Calls.quiet_of_same ((unhide hi) _)) | (go_at_call_of 38 (Value.int IntKind.i64 1); refine ((unhide hi) _).mono ?_; rintro e w0 ⟨rfl, rfl⟩; exact ⟨rfl, _, rfl⟩))
        go_wp2
        go_ret
        exact ⟨by simp, below_drewN (twoB _ _ _) _⟩
    · cases b3
      · go_enter Try.func32, Try.ntmps32
        go_wp2
        go_quiet (first | (go_at_call_of 38 (Value.int IntKind.i64 1); refine Calls.quiet_of_same ((unhide hi) _)) | (go_at_call 38; refine Calls.quiet_of_same ((unhide hn) _)))
        go_wp2
        go_quiet (first | (go_at_call_of 38 (Value.int IntKind.i64 1); refine Calls.quiet_of_same ((unhide hi) _)) | (go_at_call_of 38 (Value.int IntKind.i64 1); refine ((unhide hi) _).mono ?_; rintro e w0 ⟨rfl, rfl⟩; exact ⟨rfl, _, rfl⟩))
        go_wp2
        go_ret
        exact ⟨by simp, below_drewN (twoB _ _ _) _⟩
      · go_enter Try.func32, Try.ntmps32
        go_wp2
        go_quiet (first | (go_at_call_of 38 (Value.int IntKind.i64 1); refine Calls.quiet_of_same ((unhide hi) _)) | (go_at_call 38; refine Calls.quiet_of_same ((unhide hn) _)))
        go_wp2
        go_quiet (first | (go_at_call_of 38 (Value.int IntKind.i64 1); refine Calls.quiet_of_same ((unhide hi) _)) | (go_at_call_of 38 (Value.int IntKind.i64 1); refine ((unhide hi) _).mono ?_; rintro e w0 ⟨rfl, rfl⟩; exact ⟨rfl, _, rfl⟩))
        go_wp2
        go_ret
        exact ⟨by simp, below_drewN (twoB _ _ _) _⟩

end Go.Proofs.Ytibpnpigkbodeaa
