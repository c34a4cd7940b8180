/-
  'alike' of the law. (Written by tools/genrefnew.py.)
-/
import Derived.Test.YtibpnpigkbodeaaIv
namespace Go.Proofs.Ytibpnpigkbodeaa
open Go.RowKit Flt

set_option maxHeartbeats 1000000 in
theorem alike_walk (x y : Nat) (hx : x < 18446744073709551616) (hy : y < 18446744073709551616) (nx : nan x = false) (ny : nan y = false) (w : World) :
    Calls Try.prog 14 #[iv x y, iv x y] w fun e w' => e = .returned (.bool true) ∧ Below w.heap.size w w' := by
  have hst := run_store_float
  have hs := same_walk
  have t1 := t_eq hx hx
  have t2 := t_eq hy hy
  rw [eqB_self nx] at t1
  rw [eqB_self ny] at t2
  clear hx hy nx ny
  unfold iv
  go_enter Try.func14, Try.ntmps14
  go_wp2_with (first | (go_at_call 11; refine (hs _ _).mono ?_; rintro e w0 ⟨rfl, rfl⟩))
  go_ret
  exact ⟨rfl, twoB _ _ _⟩

end Go.Proofs.Ytibpnpigkbodeaa
