/-
  Meet, Hull, Is: that the reference answers the same.
-/
import Derived.Test.YtibpnpigkbodeaaSpRelA
import Derived.Test.YtibpnpigkbodeaaRefRel
import Derived.Test.YtibpnpigkbodeaaRefIs
import Derived.Test.YtibpnpigkbodeaaRefIs2
namespace Go.Proofs.Ytibpnpigkbodeaa
open Go.RowKit Flt

theorem refIs_walk (r : Int) {lo hi l2 h2 : Nat} (hl : lo < 18446744073709551616) (hh : hi < 18446744073709551616) (hl2 : l2 < 18446744073709551616) (hh2 : h2 < 18446744073709551616) (w : World) :
    Calls Try.prog 16 #[.int .i64 r, iv lo hi, iv l2 h2] w fun e w' => e = .returned (.bool (isR r (loB lo hi) (hiB lo hi) (loB l2 h2) (hiB l2 h2))) ∧ Below w.heap.size w w' := by
  have a := tk_of hl hh
  have b := tk_of hl2 hh2
  have hT1 := hide (fun w => taken_walk lo hi hl hh w)
  have hT2 := hide (fun w => taken_walk l2 h2 hl2 hh2 w)
  have hN1 := hide (fun w => no_walk _ _ a.l.lt a.h.lt w)
  have hN2 := hide (fun w => no_walk _ _ b.l.lt b.h.lt w)
  have n1 := run_neg (P := Try.prog) infW_lt
  rw [flip_inf] at n1
  unfold isR
  by_cases h0 : r = 0
  · subst h0
    rw [if_pos rfl]
    exact refIs_0 lo hi l2 h2 hT1 hT2 hN1 hN2 (t_eq a.l.lt b.l.lt) (t_eq a.h.lt b.h.lt) w
  rw [if_neg h0]
  by_cases h1 : r = 1
  · subst h1
    rw [if_pos rfl]
    exact refIs_1 lo hi l2 h2 hT1 hT2 hN1 hN2 (t_le b.l.lt a.l.lt) (t_le a.h.lt b.h.lt) w
  rw [if_neg h1]
  by_cases h2' : r = 2
  · subst h2'
    rw [if_pos rfl]
    exact refIs_2 lo hi l2 h2 hT1 hT2 hN1 hN2 (hide refInf_walk) n1 (t_lt b.l.lt a.l.lt) (t_eq b.l.lt ninfW_lt) (t_lt a.h.lt b.h.lt) (t_eq b.h.lt infW_lt) w
  rw [if_neg h2']
  by_cases h3 : r = 3
  · subst h3
    rw [if_pos rfl]
    exact refIs_3 lo hi l2 h2 hT1 hT2 hN1 hN2 (t_lt a.h.lt b.l.lt) (t_lt b.h.lt a.l.lt) w
  rw [if_neg h3]
  by_cases h4 : r = 4
  · subst h4
    rw [if_pos rfl]
    exact refIs_4 lo hi l2 h2 hT1 hT2 hN1 hN2 (t_le a.l.lt b.l.lt) (t_le a.h.lt b.h.lt) w
  rw [if_neg h4]
  by_cases h5 : r = 5
  · subst h5
    rw [if_pos rfl]
    exact refIs_5 lo hi l2 h2 hT1 hT2 hN1 hN2 (t_le a.h.lt b.l.lt) w
  rw [if_neg h5]
  exact refIs_else lo hi l2 h2 hT1 hT2 hN1 hN2 (by omega) w

theorem refMeet_walk {lo hi l2 h2 : Nat} (hl : lo < 18446744073709551616) (hh : hi < 18446744073709551616) (hl2 : l2 < 18446744073709551616) (hh2 : h2 < 18446744073709551616) (w : World) :
    Calls Try.prog 18 #[iv lo hi, iv l2 h2] w fun e w' => e = .returned (iv (mLo (loB lo hi) (hiB lo hi) (loB l2 h2) (hiB l2 h2)) (mHi (loB lo hi) (hiB lo hi) (loB l2 h2) (hiB l2 h2))) ∧ Below w.heap.size w w' := by
  have a := tk_of hl hh
  have b := tk_of hl2 hh2
  have hT1 := hide (fun w => taken_walk lo hi hl hh w)
  have hT2 := hide (fun w => taken_walk l2 h2 hl2 hh2 w)
  have n1 := run_neg (P := Try.prog) a.l.lt
  have n2 := run_neg (P := Try.prog) b.l.lt
  have n3 := run_neg (P := Try.prog) (leastW_lt (flip_lt a.l.lt) (flip_lt b.l.lt))
  rw [least_eq_max a.l b.l] at n3
  have hA := hide (fun w => least_walk (flip_lt a.l.lt) (flip_lt b.l.lt) w)
  have hB := hide (fun w => least_walk a.h.lt b.h.lt w)
  rw [least_eq_min a.h b.h] at hB
  have pl := a.l.max b.l
  have ph := a.h.min b.h
  cases h : ltB (minW (hiB lo hi) (hiB l2 h2)) (maxW (loB lo hi) (loB l2 h2))
  · exact refMeet_n lo hi l2 h2 hT1 hT2 n1 n2 n3 hA hB ((t_gt pl.lt ph.lt).trans h) (hide (fun w => taken_walk _ _ pl.lt ph.lt w)) w
  · have hf : hasB (maxW (loB lo hi) (loB l2 h2)) (minW (hiB lo hi) (hiB l2 h2)) = false := by
      rw [ltB_pw ph pl, decide_eq_true_iff] at h
      rw [has_pw pl ph]
      exact decide_eq_false (by omega)
    have e1 : mLo (loB lo hi) (hiB lo hi) (loB l2 h2) (hiB l2 h2) = infW := by unfold mLo; rw [loB, hf, if_neg (by decide)]
    have e2 : mHi (loB lo hi) (hiB lo hi) (loB l2 h2) (hiB l2 h2) = ninfW := by unfold mHi; rw [hiB, hf, if_neg (by decide)]
    rw [e1, e2]
    exact refMeet_e lo hi l2 h2 hT1 hT2 n1 n2 n3 hA hB ((t_gt pl.lt ph.lt).trans h) (hide refEmpty_walk) w

theorem refHull_walk {lo hi l2 h2 : Nat} (hl : lo < 18446744073709551616) (hh : hi < 18446744073709551616) (hl2 : l2 < 18446744073709551616) (hh2 : h2 < 18446744073709551616) (w : World) :
    Calls Try.prog 20 #[iv lo hi, iv l2 h2] w fun e w' => e = .returned (iv (minW (loB lo hi) (loB l2 h2)) (maxW (hiB lo hi) (hiB l2 h2))) ∧ Below w.heap.size w w' := by
  have a := tk_of hl hh
  have b := tk_of hl2 hh2
  have n1 := run_neg (P := Try.prog) a.h.lt
  have n2 := run_neg (P := Try.prog) b.h.lt
  have n3 := run_neg (P := Try.prog) (leastW_lt (flip_lt a.h.lt) (flip_lt b.h.lt))
  rw [least_eq_max a.h b.h] at n3
  have hA := hide (fun w => least_walk a.l.lt b.l.lt w)
  rw [least_eq_min a.l b.l] at hA
  have hB := hide (fun w => least_walk (flip_lt a.h.lt) (flip_lt b.h.lt) w)
  have t := hull_tk a b
  have hT3 := hide (fun w => taken_walk _ _ t.l.lt t.h.lt w)
  rw [t.taken.1, t.taken.2] at hT3
  exact refHull_core lo hi l2 h2 (hide (fun w => taken_walk lo hi hl hh w)) (hide (fun w => taken_walk l2 h2 hl2 hh2 w)) hA n1 n2 n3 hB hT3 w

end Go.Proofs.Ytibpnpigkbodeaa
