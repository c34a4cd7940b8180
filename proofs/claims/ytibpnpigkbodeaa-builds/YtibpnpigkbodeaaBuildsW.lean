/-
  Builds: the law's walk. (Written by tools/genbuilds.py.)
-/
import Derived.Test.YtibpnpigkbodeaaSpNew
import Derived.Test.YtibpnpigkbodeaaRefNew
import Derived.Test.YtibpnpigkbodeaaAlike
namespace Go.Proofs.Ytibpnpigkbodeaa
open Go.RowKit Flt

set_option maxHeartbeats 1000000 in
theorem builds_walk (a0 a1 : Int) (h0 : 0 ≤ a0 ∧ a0 ≤ 18446744073709551615) (h1 : 0 ≤ a1 ∧ a1 ≤ 18446744073709551615) (w : World) :
    Calls Try.prog 4 #[.int .u64 a0, .int .u64 a1] w fun e w' => e = .returned (.bool true) ∧ Below w.heap.size w w' := by
  have hl : a0.toNat < 18446744073709551616 := by omega
  have hh : a1.toNat < 18446744073709551616 := by omega
  have hst := run_store_float
  have hN := hide (fun w => new_walk _ _ hl hh w)
  have hR := hide (fun w => refNew_walk _ _ hl hh w)
  have hA := hide (fun w => alike_walk _ _ (loB_lt (hi := a1.toNat) hl) (hiB_lt (lo := a0.toNat) hh) (nan_loB _ _) (nan_hiB _ _) w)
  clear h0 h1 hl hh
  generalize loB a0.toNat a1.toNat = sl at *
  generalize hiB a0.toNat a1.toNat = sh at *
  generalize hasB a0.toNat a1.toNat = b at *
  unfold iv at *
  go_enter Try.func4, Try.ntmps4
  go_wp2_with (first | (go_at_call 6; refine (of_walk _ _).mono ?_; rintro e w0 ⟨rfl, rfl⟩) | (go_at_call 12; refine ((unhide hN) _).mono ?_; rintro e w1 ⟨rfl, hbw1⟩; have Sw1 := hbw1.size; (try simp at Sw1); have Hw1 := hide (chainB (Below.refl _ _) hbw1); clear hbw1) | (go_at_call 13; refine ((unhide hR) _).mono ?_; rintro e w2 ⟨rfl, hbw2⟩; obtain ⟨w2ca0, w2za0, w2ca1, w2za1⟩ := bN hbw2 (w1.heap.size) (by simp <;> omega); simp [go_sem] at w2ca0 w2za0 w2ca1 w2za1; have Sw2 := hbw2.size; (try simp at Sw2); obtain ⟨w2da0, w2ea0, w2da1, w2ea1⟩ := bA (by omega) w2ca0 w2za0 w2ca1 w2za1; have Hw2 := hide (chainB (chainB (unhide Hw1) (below_one w1 _)) hbw2); clear hbw2) | (go_at_call 14; refine ((unhide hA) _).mono ?_; rintro e w3 ⟨rfl, hbw3⟩; have Sw3 := hbw3.size; (try simp at Sw3); have Hw3 := hide (chainB (chainB (unhide Hw2) (below_one w2 _)) hbw3); clear hbw3))
  go_ret
  exact ⟨rfl, unhide Hw3⟩

end Go.Proofs.Ytibpnpigkbodeaa
