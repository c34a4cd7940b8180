/-
  least of the reference.
-/
import Derived.Test.YtibpnpigkbodeaaRefIv
import Derived.Test.YtibpnpigkbodeaaTk
namespace Go.Proofs.Ytibpnpigkbodeaa
open Go.RowKit Flt

def leastW (x y : Nat) : Nat := if ltB y x then y else x
set_option maxHeartbeats 400000 in
theorem least_walk {x y : Nat} (hx : x < 18446744073709551616) (hy : y < 18446744073709551616) (w : World) :
    Calls Try.prog 34 #[.float .f64 x, .float .f64 y] w fun e w' => e = .returned (.float .f64 (leastW x y)) ∧ w' = w := by
  have t := t_lt hy hx
  unfold leastW
  cases h : ltB y x
  · rw [h] at t
    rw [if_neg (by decide)]
    clear h hx hy
    go_enter Try.func34, Try.ntmps34
    go_wp2
    go_ret
    exact ⟨rfl, rfl⟩
  · rw [h] at t
    rw [if_pos rfl]
    clear h hx hy
    go_enter Try.func34, Try.ntmps34
    go_wp2
    go_ret
    exact ⟨rfl, rfl⟩

theorem least_eq_min {x y : Nat} (hx : PW x) (hy : PW y) : leastW x y = minW x y := by
  have hp : PW (leastW x y) := by unfold leastW; split <;> assumption
  refine PW.ext hp (hx.min hy) ?_
  rw [key_min]
  unfold leastW
  rw [ltB_pw hy hx]
  by_cases c : key y < key x
  · rw [decide_eq_true c, if_pos rfl]; omega
  · rw [decide_eq_false c, if_neg (by decide)]; omega
theorem least_eq_max {x y : Nat} (hx : PW x) (hy : PW y) : flip (leastW (flip x) (flip y)) = maxW x y := by
  have nx : nan (flip x) = false := by rw [nan_flip hx.lt]; exact hx.nan
  have ny : nan (flip y) = false := by rw [nan_flip hy.lt]; exact hy.nan
  unfold leastW
  rw [show ltB (flip y) (flip x) = decide (key (flip y) < key (flip x)) from by unfold ltB; rw [nx, ny]; rfl, key_flip hx.lt, key_flip hy.lt]
  by_cases c : -key y < -key x
  · rw [decide_eq_true c, if_pos rfl, flip_flip hy.lt]; exact PW.ext hy (hx.max hy) (by rw [key_max]; omega)
  · rw [decide_eq_false c, if_neg (by decide), flip_flip hx.lt]; exact PW.ext hx (hx.max hy) (by rw [key_max]; omega)
theorem leastW_lt {x y : Nat} (hx : x < 18446744073709551616) (hy : y < 18446744073709551616) : leastW x y < 18446744073709551616 := by unfold leastW; split <;> assumption

end Go.Proofs.Ytibpnpigkbodeaa
