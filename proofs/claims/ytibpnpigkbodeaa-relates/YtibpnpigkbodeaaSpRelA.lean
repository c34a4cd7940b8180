/-
  Meet, Hull, Is: what the program answers.
-/
import Derived.Test.YtibpnpigkbodeaaSpRel
import Derived.Test.YtibpnpigkbodeaaSpIn
import Derived.Test.YtibpnpigkbodeaaSpIs
import Derived.Test.YtibpnpigkbodeaaSpIs2
import Derived.Test.YtibpnpigkbodeaaTk
namespace Go.Proofs.Ytibpnpigkbodeaa
open Go.RowKit Flt

theorem spMeet_walk {lo hi l2 h2 : Nat} (hl : lo < 18446744073709551616) (hh : hi < 18446744073709551616) (hl2 : l2 < 18446744073709551616) (hh2 : h2 < 18446744073709551616) (w : World) :
    Calls Try.prog 17 #[iv lo hi, iv l2 h2] w fun e w' => e = .returned (iv (mLo (loB lo hi) (hiB lo hi) (loB l2 h2) (hiB l2 h2)) (mHi (loB lo hi) (hiB lo hi) (loB l2 h2) (hiB l2 h2))) ∧ Below w.heap.size w w' := by
  have a := tk_of hl hh
  have b := tk_of hl2 hh2
  exact spMeet_core lo hi l2 h2 (hide (fun w => settled_walk lo hi hl hh w)) (hide (fun w => settled_walk l2 h2 hl2 hh2 w)) (run_maxF2 a.l.lt b.l.lt a.l.nan b.l.nan) (run_minF2 a.h.lt b.h.lt a.h.nan b.h.nan) (hide (fun w => settled_walk _ _ (a.l.max b.l).lt (a.h.min b.h).lt w)) w
theorem spHull_walk {lo hi l2 h2 : Nat} (hl : lo < 18446744073709551616) (hh : hi < 18446744073709551616) (hl2 : l2 < 18446744073709551616) (hh2 : h2 < 18446744073709551616) (w : World) :
    Calls Try.prog 19 #[iv lo hi, iv l2 h2] w fun e w' => e = .returned (iv (minW (loB lo hi) (loB l2 h2)) (maxW (hiB lo hi) (hiB l2 h2))) ∧ Below w.heap.size w w' := by
  have a := tk_of hl hh
  have b := tk_of hl2 hh2
  exact spHull_core lo hi l2 h2 (hide (fun w => settled_walk lo hi hl hh w)) (hide (fun w => settled_walk l2 h2 hl2 hh2 w)) (run_minF2 a.l.lt b.l.lt a.l.nan b.l.nan) (run_maxF2 a.h.lt b.h.lt a.h.nan b.h.nan) w
theorem inside_walk {x0 y0 x1 y1 : Nat} (a : Tk x0 y0) (b : Tk x1 y1) (w : World) :
    Calls Try.prog 32 #[iv x0 y0, iv x1 y1] w fun e w' => e = .returned (.bool ((ltB x1 x0 || eqB x1 ninfW) && (ltB y0 y1 || eqB y1 infW))) ∧ Below w.heap.size w w' :=
  inside_core (hide infP_walk) (hide infN_walk) (t_lt b.l.lt a.l.lt) (t_eq b.l.lt ninfW_lt) (t_gt b.h.lt a.h.lt) (t_eq b.h.lt infW_lt) w

/-- Meet of two that are taken. -/
theorem spMeet_tk {x0 y0 x1 y1 : Nat} (a : Tk x0 y0) (b : Tk x1 y1) (w : World) :
    Calls Try.prog 17 #[iv x0 y0, iv x1 y1] w fun e w' => e = .returned (iv (mLo x0 y0 x1 y1) (mHi x0 y0 x1 y1)) ∧ Below w.heap.size w w' := by
  have h := spMeet_walk a.l.lt a.h.lt b.l.lt b.h.lt w
  rw [a.taken.1, a.taken.2, b.taken.1, b.taken.2] at h
  exact h

theorem spIs_walk (r : Int) {lo hi l2 h2 : Nat} (hl : lo < 18446744073709551616) (hh : hi < 18446744073709551616) (hl2 : l2 < 18446744073709551616) (hh2 : h2 < 18446744073709551616) (w : World) :
    Calls Try.prog 15 #[.int .i64 r, iv lo hi, iv l2 h2] w fun e w' => e = .returned (.bool (isP r (loB lo hi) (hiB lo hi) (loB l2 h2) (hiB l2 h2))) ∧ Below w.heap.size w w' := by
  have a := tk_of hl hh
  have b := tk_of hl2 hh2
  have hS1 := hide (fun w => settled_walk lo hi hl hh w)
  have hS2 := hide (fun w => settled_walk l2 h2 hl2 hh2 w)
  have hM := hide (fun w => spMeet_tk a b w)
  have hE := hide empty_walk
  have m := meet_tk a b
  have hI := hide (fun w => inside_walk a b w)
  unfold isP
  by_cases h0 : r = 0
  · subst h0
    rw [if_pos rfl]
    exact spIs_0 lo hi l2 h2 hS1 hS2 (t_eq a.l.lt b.l.lt) (t_eq a.h.lt b.h.lt) w
  rw [if_neg h0]
  by_cases h1 : r = 1
  · subst h1
    rw [if_pos rfl]
    exact spIs_1 lo hi l2 h2 hS1 hS2 hM (t_eq m.l.lt a.l.lt) (t_eq m.h.lt a.h.lt) w
  rw [if_neg h1]
  by_cases h2' : r = 2
  · subst h2'
    rw [if_pos rfl]
    cases c : eqB (loB lo hi) infW
    · exact spIs_2n lo hi l2 h2 hS1 hS2 hE ((t_eq a.l.lt infW_lt).trans c) hI w
    · have c2 : eqB (hiB lo hi) ninfW = true := by
        rw [eqB_pw a.l pw_inf, key_inf, decide_eq_true_iff] at c
        rw [eqB_pw a.h pw_ninf, key_ninf, decide_eq_true_iff]
        have := a.or
        omega
      rw [c2]
      exact spIs_2e lo hi l2 h2 hS1 hS2 hE ((t_eq a.l.lt infW_lt).trans c) ((t_eq a.h.lt ninfW_lt).trans c2) w
  rw [if_neg h2']
  by_cases h3 : r = 3
  · subst h3
    rw [if_pos rfl]
    exact spIs_3 lo hi l2 h2 hS1 hS2 hM hE (t_eq m.l.lt infW_lt) (t_eq m.h.lt ninfW_lt) w
  rw [if_neg h3]
  by_cases h4 : r = 4
  · subst h4
    rw [if_pos rfl]
    exact spIs_4 lo hi l2 h2 hS1 hS2 (t_le a.l.lt b.l.lt) (t_le a.h.lt b.h.lt) w
  rw [if_neg h4]
  by_cases h5 : r = 5
  · subst h5
    rw [if_pos rfl]
    exact spIs_5 lo hi l2 h2 hS1 hS2 (t_le a.h.lt b.l.lt) w
  rw [if_neg h5]
  exact spIs_else lo hi l2 h2 hS1 hS2 (by omega) w

/-- Hull of two that are taken. -/
theorem spHull_tk {x0 y0 x1 y1 : Nat} (a : Tk x0 y0) (b : Tk x1 y1) (w : World) :
    Calls Try.prog 19 #[iv x0 y0, iv x1 y1] w fun e w' => e = .returned (iv (minW x0 x1) (maxW y0 y1)) ∧ Below w.heap.size w w' := by
  have h := spHull_walk a.l.lt a.h.lt b.l.lt b.h.lt w
  rw [a.taken.1, a.taken.2, b.taken.1, b.taken.2] at h
  exact h
/-- Is of two that are taken. -/
theorem spIs_tk (r : Int) {x0 y0 x1 y1 : Nat} (a : Tk x0 y0) (b : Tk x1 y1) (w : World) :
    Calls Try.prog 15 #[.int .i64 r, iv x0 y0, iv x1 y1] w fun e w' => e = .returned (.bool (isP r x0 y0 x1 y1)) ∧ Below w.heap.size w w' := by
  have h := spIs_walk r a.l.lt a.h.lt b.l.lt b.h.lt w
  rw [a.taken.1, a.taken.2, b.taken.1, b.taken.2] at h
  exact h

end Go.Proofs.Ytibpnpigkbodeaa
