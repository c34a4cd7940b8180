/-
  Two taken intervals: what they have together, the least that has both, how they lie to each other: plain facts.
-/
import Derived.Test.YtibpnpigkbodeaaMx
namespace Go.Proofs.Ytibpnpigkbodeaa
open Go.RowKit Flt

/-- An interval as it is taken. -/
structure Tk (lo hi : Nat) : Prop where
  l : PW lo
  h : PW hi
  or : (key lo ≤ key hi ∧ key lo < 9218868437227405312 ∧ -9218868437227405312 < key hi) ∨ (key lo = 9218868437227405312 ∧ key hi = -9218868437227405312)

theorem tk_of {lo hi : Nat} (hl : lo < 18446744073709551616) (hh : hi < 18446744073709551616) : Tk (loB lo hi) (hiB lo hi) := by
  refine ⟨pw_loB hi hl, pw_hiB lo hh, ?_⟩
  cases h : hasB lo hi
  · right
    unfold loB hiB
    rw [h, if_neg (by decide), if_neg (by decide)]
    exact ⟨key_inf, key_ninf⟩
  · left
    obtain ⟨_, _, h1, h2, h3⟩ := has_spec.1 h
    unfold loB hiB
    rw [h, if_pos rfl, if_pos rfl, key_plain hl, key_plain hh]
    exact ⟨h1, h2, h3⟩
theorem has_pw {p q : Nat} (hp : PW p) (hq : PW q) : hasB p q = decide (key p ≤ key q ∧ key p < 9218868437227405312 ∧ -9218868437227405312 < key q) := by
  rw [Bool.eq_iff_iff, has_spec, decide_eq_true_iff]
  exact ⟨fun ⟨_, _, h⟩ => h, fun h => ⟨hp.nan, hq.nan, h⟩⟩
theorem key_loB {p q : Nat} (hp : PW p) (hq : PW q) : key (loB p q) = if key p ≤ key q ∧ key p < 9218868437227405312 ∧ -9218868437227405312 < key q then key p else 9218868437227405312 := by
  unfold loB
  rw [has_pw hp hq]
  by_cases c : key p ≤ key q ∧ key p < 9218868437227405312 ∧ -9218868437227405312 < key q
  · rw [decide_eq_true c, if_pos rfl, if_pos c, key_plain hp.lt]
  · rw [decide_eq_false c, if_neg (by decide), if_neg c, key_inf]
theorem key_hiB {p q : Nat} (hp : PW p) (hq : PW q) : key (hiB p q) = if key p ≤ key q ∧ key p < 9218868437227405312 ∧ -9218868437227405312 < key q then key q else -9218868437227405312 := by
  unfold hiB
  rw [has_pw hp hq]
  by_cases c : key p ≤ key q ∧ key p < 9218868437227405312 ∧ -9218868437227405312 < key q
  · rw [decide_eq_true c, if_pos rfl, if_pos c, key_plain hq.lt]
  · rw [decide_eq_false c, if_neg (by decide), if_neg c, key_ninf]
theorem Tk.taken {lo hi : Nat} (t : Tk lo hi) : loB lo hi = lo ∧ hiB lo hi = hi := by
  have o := t.or
  refine ⟨PW.ext (pw_loB hi t.l.lt) t.l ?_, PW.ext (pw_hiB lo t.h.lt) t.h ?_⟩
  · rw [key_loB t.l t.h]; split <;> omega
  · rw [key_hiB t.l t.h]; split <;> omega

theorem ltB_pw {a b : Nat} (ha : PW a) (hb : PW b) : ltB a b = decide (key a < key b) := by unfold ltB; rw [ha.nan, hb.nan]; rfl
theorem leB_pw {a b : Nat} (ha : PW a) (hb : PW b) : leB a b = decide (key a ≤ key b) := by unfold leB; rw [ha.nan, hb.nan]; rfl
theorem eqB_pw {a b : Nat} (ha : PW a) (hb : PW b) : eqB a b = decide (key a = key b) := by unfold eqB; rw [ha.nan, hb.nan]; rfl

/-! ### What two have together, the least that has both -/
def mLo (x0 y0 x1 y1 : Nat) : Nat := loB (maxW x0 x1) (minW y0 y1)
def mHi (x0 y0 x1 y1 : Nat) : Nat := hiB (maxW x0 x1) (minW y0 y1)
theorem meet_tk {x0 y0 x1 y1 : Nat} (a : Tk x0 y0) (b : Tk x1 y1) : Tk (mLo x0 y0 x1 y1) (mHi x0 y0 x1 y1) := tk_of (a.l.max b.l).lt (a.h.min b.h).lt
theorem meet_lo {x0 y0 x1 y1 : Nat} (a : Tk x0 y0) (b : Tk x1 y1) : key (mLo x0 y0 x1 y1) = if max (key x0) (key x1) ≤ min (key y0) (key y1) ∧ max (key x0) (key x1) < 9218868437227405312 ∧ -9218868437227405312 < min (key y0) (key y1) then max (key x0) (key x1) else 9218868437227405312 := by
  unfold mLo; rw [key_loB (a.l.max b.l) (a.h.min b.h), key_max, key_min]
theorem meet_hi {x0 y0 x1 y1 : Nat} (a : Tk x0 y0) (b : Tk x1 y1) : key (mHi x0 y0 x1 y1) = if max (key x0) (key x1) ≤ min (key y0) (key y1) ∧ max (key x0) (key x1) < 9218868437227405312 ∧ -9218868437227405312 < min (key y0) (key y1) then min (key y0) (key y1) else -9218868437227405312 := by
  unfold mHi; rw [key_hiB (a.l.max b.l) (a.h.min b.h), key_max, key_min]
theorem hull_tk {x0 y0 x1 y1 : Nat} (a : Tk x0 y0) (b : Tk x1 y1) : Tk (minW x0 x1) (maxW y0 y1) := by
  refine ⟨a.l.min b.l, a.h.max b.h, ?_⟩
  rw [key_min, key_max]
  have := a.or
  have := b.or
  omega

/-! ### How they lie to each other -/
/-- As the program tells it. -/
def isP (r : Int) (x0 y0 x1 y1 : Nat) : Bool :=
  if r = 0 then eqB x0 x1 && eqB y0 y1
  else if r = 1 then eqB (mLo x0 y0 x1 y1) x0 && eqB (mHi x0 y0 x1 y1) y0
  else if r = 2 then (eqB x0 infW && eqB y0 ninfW) || ((ltB x1 x0 || eqB x1 ninfW) && (ltB y0 y1 || eqB y1 infW))
  else if r = 3 then eqB (mLo x0 y0 x1 y1) infW && eqB (mHi x0 y0 x1 y1) ninfW
  else if r = 4 then leB x0 x1 && leB y0 y1
  else if r = 5 then leB y0 x1
  else false
/-- As the reference tells it. -/
def isR (r : Int) (x0 y0 x1 y1 : Nat) : Bool :=
  if r = 0 then eqB x0 x1 && eqB y0 y1
  else if r = 1 then ltB y0 x0 || (leB x1 x0 && leB y0 y1)
  else if r = 2 then ltB y0 x0 || (!ltB y1 x1 && (ltB x1 x0 || eqB x1 ninfW) && (ltB y0 y1 || eqB y1 infW))
  else if r = 3 then ltB y0 x0 || ltB y1 x1 || ltB y0 x1 || ltB y1 x0
  else if r = 4 then (ltB y0 x0 && ltB y1 x1) || (!ltB y0 x0 && !ltB y1 x1 && leB x0 x1 && leB y0 y1)
  else if r = 5 then ltB y0 x0 || ltB y1 x1 || leB y0 x1
  else false

theorem is_same (r : Int) {x0 y0 x1 y1 : Nat} (a : Tk x0 y0) (b : Tk x1 y1) : isP r x0 y0 x1 y1 = isR r x0 y0 x1 y1 := by
  have m := meet_tk a b
  have k1 := meet_lo a b
  have k2 := meet_hi a b
  have o1 := a.or
  have o2 := b.or
  have r1 := a.l.rng
  have r2 := a.h.rng
  have r3 := b.l.rng
  have r4 := b.h.rng
  unfold isP isR
  split
  · rfl
  · split
    · rw [eqB_pw m.l a.l, eqB_pw m.h a.h, ltB_pw a.h a.l, leB_pw b.l a.l, leB_pw a.h b.h, k1, k2, Bool.eq_iff_iff]
      simp only [Bool.or_eq_true, Bool.and_eq_true, decide_eq_true_eq]
      split <;> omega
    · split
      · rw [eqB_pw a.l pw_inf, eqB_pw a.h pw_ninf, ltB_pw b.l a.l, eqB_pw b.l pw_ninf, ltB_pw a.h b.h, eqB_pw b.h pw_inf, ltB_pw a.h a.l, ltB_pw b.h b.l, key_inf, key_ninf, Bool.eq_iff_iff]
        simp only [Bool.or_eq_true, Bool.and_eq_true, Bool.not_eq_true', decide_eq_true_eq, decide_eq_false_iff_not]
        omega
      · split
        · rw [eqB_pw m.l pw_inf, eqB_pw m.h pw_ninf, ltB_pw a.h a.l, ltB_pw b.h b.l, ltB_pw a.h b.l, ltB_pw b.h a.l, k1, k2, key_inf, key_ninf, Bool.eq_iff_iff]
          simp only [Bool.or_eq_true, Bool.and_eq_true, decide_eq_true_eq]
          split <;> omega
        · split
          · rw [leB_pw a.l b.l, leB_pw a.h b.h, ltB_pw a.h a.l, ltB_pw b.h b.l, Bool.eq_iff_iff]
            simp only [Bool.or_eq_true, Bool.and_eq_true, Bool.not_eq_true', decide_eq_true_eq, decide_eq_false_iff_not]
            omega
          · split
            · rw [leB_pw a.h b.l, ltB_pw a.h a.l, ltB_pw b.h b.l, Bool.eq_iff_iff]
              simp only [Bool.or_eq_true, decide_eq_true_eq]
              omega
            · rfl

end Go.Proofs.Ytibpnpigkbodeaa
