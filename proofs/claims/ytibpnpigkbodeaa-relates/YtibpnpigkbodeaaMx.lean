/-
  min and max of words; plain words, told by their keys.
-/
import Derived.Test.YtibpnpigkbodeaaIv
namespace Go.Proofs.Ytibpnpigkbodeaa
open Go.RowKit Flt

theorem keep_set {W : World} {g : Nat} {x y : Value} {p : Addr} {v : Value} (h : W.cell? p = some v) (hg : p.block ≠ g) : ((W.setCell ⟨g, 0, none⟩ x).setCell ⟨g, 1, none⟩ y).cell? p = some v := by
  rw [World.cell?_of_block (w := W) (w' := (W.setCell ⟨g, 0, none⟩ x).setCell ⟨g, 1, none⟩ y)]
  · exact h
  · rw [Below.heap_setCell _ _ _ _ hg, Below.heap_setCell _ _ _ _ hg]

theorem set_frozen {W : World} {g : Nat} {x y : Value} {p : Addr} (h : W.frozen? p = false) : ((W.setCell ⟨g, 0, none⟩ x).setCell ⟨g, 1, none⟩ y).frozen? p = false := by
  simpa using h

/-- A word that may come out: no NaN, no -0. -/
structure PW (b : Nat) : Prop where
  lt : b < 18446744073709551616
  nan : nan b = false
  plain : plainB b = b

/-- Two such words of one key are one. -/
theorem PW.ext {a b : Nat} (ha : PW a) (hb : PW b) (h : key a = key b) : a = b := by
  have h1 := key_spec a
  have h2 := key_spec b
  have h3 := rung_spec a ha.lt
  have h4 := rung_spec b hb.lt
  have h5 := ha.plain
  have h6 := hb.plain
  unfold plainB at h5 h6
  by_cases c : rung a = 0
  · rw [if_pos c] at h5
    by_cases d : rung b = 0
    · rw [if_pos d] at h6; omega
    · omega
  · by_cases d : rung b = 0
    · rw [if_pos d] at h6; omega
    · omega
theorem pw_plain {b : Nat} (hb : b < 18446744073709551616) (h : nan b = false) : PW (plainB b) := by
  refine ⟨plainB_lt hb, nan_plain h, ?_⟩
  unfold plainB
  by_cases c : rung b = 0
  · rw [if_pos c]; decide
  · rw [if_neg c, if_neg c]
theorem pw_inf : PW infW := ⟨by decide, by decide, by decide⟩
theorem pw_ninf : PW ninfW := ⟨by decide, by decide, by decide⟩
theorem pw_zero : PW 0 := ⟨by decide, by decide, by decide⟩
theorem pw_loB {lo : Nat} (hi : Nat) (hl : lo < 18446744073709551616) : PW (loB lo hi) := by
  unfold loB; split
  · rename_i h; exact pw_plain hl (has_spec.1 h).1
  · exact pw_inf
theorem pw_hiB {hi : Nat} (lo : Nat) (hh : hi < 18446744073709551616) : PW (hiB lo hi) := by
  unfold hiB; split
  · rename_i h; exact pw_plain hh (has_spec.1 h).2.1
  · exact pw_ninf
theorem PW.rng {b : Nat} (h : PW b) : -9218868437227405312 ≤ key b ∧ key b ≤ 9218868437227405312 := by
  have h1 := key_spec b
  have h2 := rung_spec b h.lt
  have h3 := (nan_false_iff b).1 h.nan
  omega
theorem rng_of {b : Nat} (hb : b < 18446744073709551616) (h : nan b = false) : -9218868437227405312 ≤ key b ∧ key b ≤ 9218868437227405312 := by
  have h1 := key_spec b
  have h2 := rung_spec b hb
  have h3 := (nan_false_iff b).1 h
  omega
/-- An interval with numbers, as it is taken, is itself. -/
theorem taken_self {lo hi : Nat} (hl : PW lo) (hh : PW hi) (h : key lo ≤ key hi) (h1 : key lo < 9218868437227405312) (h2 : -9218868437227405312 < key hi) : loB lo hi = lo ∧ hiB lo hi = hi := by
  have : hasB lo hi = true := has_spec.2 ⟨hl.nan, hh.nan, h, h1, h2⟩
  unfold loB hiB
  rw [this, if_pos rfl, if_pos rfl, hl.plain, hh.plain]
  exact ⟨rfl, rfl⟩
theorem taken_empty : loB infW ninfW = infW ∧ hiB infW ninfW = ninfW := by decide

def maxW (x y : Nat) : Nat := if key x < key y then y else if key y < key x then x else if neg x then y else x
def minW (x y : Nat) : Nat := if key x < key y then x else if key y < key x then y else if neg x then x else y
theorem key_max (x y : Nat) : key (maxW x y) = max (key x) (key y) := by
  unfold maxW
  by_cases h : key x < key y
  · rw [if_pos h]; omega
  · rw [if_neg h]
    by_cases h2 : key y < key x
    · rw [if_pos h2]; omega
    · rw [if_neg h2]; split <;> omega
theorem key_min (x y : Nat) : key (minW x y) = min (key x) (key y) := by
  unfold minW
  by_cases h : key x < key y
  · rw [if_pos h]; omega
  · rw [if_neg h]
    by_cases h2 : key y < key x
    · rw [if_pos h2]; omega
    · rw [if_neg h2]; split <;> omega
theorem max_or (x y : Nat) : maxW x y = x ∨ maxW x y = y := by
  unfold maxW; repeat' split
  all_goals simp
theorem min_or (x y : Nat) : minW x y = x ∨ minW x y = y := by
  unfold minW; repeat' split
  all_goals simp
theorem PW.max {x y : Nat} (hx : PW x) (hy : PW y) : PW (maxW x y) := by rcases max_or x y with h | h <;> rw [h] <;> assumption
theorem PW.min {x y : Nat} (hx : PW x) (hy : PW y) : PW (minW x y) := by rcases min_or x y with h | h <;> rw [h] <;> assumption
/-- .. with one that may be -0 ahead. -/
theorem PW.max_left {x y : Nat} (hx : x < 18446744073709551616) (nx : Flt.nan x = false) (hy : PW y) (h : 0 ≤ key y) : PW (maxW x y) := by
  by_cases c : rung x = 0
  · have h1 := key_spec x
    have h2 := rung_spec x hx
    unfold maxW
    by_cases k : key x < key y
    · rw [if_pos k]; exact hy
    · rw [if_neg k, if_neg (by omega)]
      have h3 := key_spec y
      by_cases n : neg x = true
      · rw [if_pos n]; exact hy
      · rw [if_neg n]
        have : x = 0 := by
          unfold neg at n
          rw [decide_eq_true_eq] at n
          omega
        rw [this]; exact pw_zero
  · rcases max_or x y with h | h <;> rw [h]
    · refine ⟨hx, nx, ?_⟩
      unfold plainB; rw [if_neg c]
    · exact hy

theorem decode_neg {x : Nat} (hx : x < 18446744073709551616) : (FloatKind.f64.decode x).neg = neg x := by
  show (Ieee.double.read x).neg = neg x
  by_cases h : rung x < 9218868437227405312
  · rw [read_num hx h]; rfl
  · by_cases h2 : rung x = 9218868437227405312
    · rw [read_inf hx h2]; rfl
    · rw [read_nan hx (by omega)]; rfl

theorem run_max2 {P : Program} {x y : Nat} (hx : x < 18446744073709551616) (hy : y < 18446744073709551616) (nx : nan x = false) (ny : nan y = false) (w : World) :
    (Builtin.max2 (.float .f64 x) (.float .f64 y)).run P w = .ok (.float .f64 (maxW x y)) w := by
  have ho : FloatKind.f64.format.order x y = some (compare (key x) (key y)) := order_key hx hy nx ny
  have hd := decode_neg hx
  rcases Int.lt_trichotomy (key x) (key y) with h | h | h
  · have hc : compare (key x) (key y) = .lt := by simp only [compare, compareOfLessAndEq]; rw [if_pos h]
    have hm : maxW x y = y := by unfold maxW; rw [if_pos h]
    rw [hc] at ho
    unfold Builtin.max2
    simp only [ho, hm]
    rfl
  · have hc : compare (key x) (key y) = .eq := by simp only [compare, compareOfLessAndEq]; rw [if_neg (by omega), if_pos h]
    have hm : maxW x y = if neg x then y else x := by unfold maxW; rw [if_neg (by omega), if_neg (by omega)]
    rw [hc] at ho
    unfold Builtin.max2
    simp only [ho, hm, hd]
    rfl
  · have hc : compare (key x) (key y) = .gt := by simp only [compare, compareOfLessAndEq]; rw [if_neg (by omega), if_neg (by omega)]
    have hm : maxW x y = x := by unfold maxW; rw [if_neg (by omega), if_pos h]
    rw [hc] at ho
    unfold Builtin.max2
    simp only [ho, hm]
    rfl
theorem run_min2 {P : Program} {x y : Nat} (hx : x < 18446744073709551616) (hy : y < 18446744073709551616) (nx : nan x = false) (ny : nan y = false) (w : World) :
    (Builtin.min2 (.float .f64 x) (.float .f64 y)).run P w = .ok (.float .f64 (minW x y)) w := by
  have ho : FloatKind.f64.format.order x y = some (compare (key x) (key y)) := order_key hx hy nx ny
  have hd := decode_neg hx
  rcases Int.lt_trichotomy (key x) (key y) with h | h | h
  · have hc : compare (key x) (key y) = .lt := by simp only [compare, compareOfLessAndEq]; rw [if_pos h]
    have hm : minW x y = x := by unfold minW; rw [if_pos h]
    rw [hc] at ho
    unfold Builtin.min2
    simp only [ho, hm]
    rfl
  · have hc : compare (key x) (key y) = .eq := by simp only [compare, compareOfLessAndEq]; rw [if_neg (by omega), if_pos h]
    have hm : minW x y = if neg x then x else y := by unfold minW; rw [if_neg (by omega), if_neg (by omega)]
    rw [hc] at ho
    unfold Builtin.min2
    simp only [ho, hm, hd]
    rfl
  · have hc : compare (key x) (key y) = .gt := by simp only [compare, compareOfLessAndEq]; rw [if_neg (by omega), if_neg (by omega)]
    have hm : minW x y = y := by unfold minW; rw [if_neg (by omega), if_pos h]
    rw [hc] at ho
    unfold Builtin.min2
    simp only [ho, hm]
    rfl

theorem max_lt {x y : Nat} (hx : x < 18446744073709551616) (hy : y < 18446744073709551616) : maxW x y < 18446744073709551616 := by rcases max_or x y with h | h <;> rw [h] <;> assumption
theorem min_lt {x y : Nat} (hx : x < 18446744073709551616) (hy : y < 18446744073709551616) : minW x y < 18446744073709551616 := by rcases min_or x y with h | h <;> rw [h] <;> assumption
theorem max_nan {x y : Nat} (hx : nan x = false) (hy : nan y = false) : nan (maxW x y) = false := by rcases max_or x y with h | h <;> rw [h] <;> assumption
theorem min_nan {x y : Nat} (hx : nan x = false) (hy : nan y = false) : nan (minW x y) = false := by rcases min_or x y with h | h <;> rw [h] <;> assumption

theorem run_maxF2 {P : Program} {x y : Nat} (hx : x < 18446744073709551616) (hy : y < 18446744073709551616) (nx : nan x = false) (ny : nan y = false) (ts : Array TypeId) (t : TypeId) (w : World) :
    (Builtin.max_ ts t #[.float .f64 x, .float .f64 y]).run P w = .ok (.float .f64 (maxW x y)) w := by
  simp [Builtin.max_, run_max2 hx hy nx ny]
theorem run_minF2 {P : Program} {x y : Nat} (hx : x < 18446744073709551616) (hy : y < 18446744073709551616) (nx : nan x = false) (ny : nan y = false) (ts : Array TypeId) (t : TypeId) (w : World) :
    (Builtin.min_ ts t #[.float .f64 x, .float .f64 y]).run P w = .ok (.float .f64 (minW x y)) w := by
  simp [Builtin.min_, run_min2 hx hy nx ny]
theorem run_maxF3 {P : Program} {x y z : Nat} (hx : x < 18446744073709551616) (hy : y < 18446744073709551616) (hz : z < 18446744073709551616) (nx : nan x = false) (ny : nan y = false) (nz : nan z = false) (ts : Array TypeId) (t : TypeId) (w : World) :
    (Builtin.max_ ts t #[.float .f64 x, .float .f64 y, .float .f64 z]).run P w = .ok (.float .f64 (maxW (maxW x y) z)) w := by
  simp [Builtin.max_, run_max2 hx hy nx ny, run_max2 (max_lt hx hy) hz (max_nan nx ny) nz]
theorem run_maxF4 {P : Program} {x y z u : Nat} (hx : PW x) (hy : PW y) (hz : PW z) (hu : PW u) (ts : Array TypeId) (t : TypeId) (w : World) :
    (Builtin.max_ ts t #[.float .f64 x, .float .f64 y, .float .f64 z, .float .f64 u]).run P w = .ok (.float .f64 (maxW (maxW (maxW x y) z) u)) w := by
  have h1 := hx.max hy
  have h2 := h1.max hz
  simp [Builtin.max_, run_max2 hx.lt hy.lt hx.nan hy.nan, run_max2 h1.lt hz.lt h1.nan hz.nan, run_max2 h2.lt hu.lt h2.nan hu.nan]
theorem run_minF4 {P : Program} {x y z u : Nat} (hx : PW x) (hy : PW y) (hz : PW z) (hu : PW u) (ts : Array TypeId) (t : TypeId) (w : World) :
    (Builtin.min_ ts t #[.float .f64 x, .float .f64 y, .float .f64 z, .float .f64 u]).run P w = .ok (.float .f64 (minW (minW (minW x y) z) u)) w := by
  have h1 := hx.min hy
  have h2 := h1.min hz
  simp [Builtin.min_, run_min2 hx.lt hy.lt hx.nan hy.nan, run_min2 h1.lt hz.lt h1.nan hz.nan, run_min2 h2.lt hu.lt h2.nan hu.nan]

end Go.Proofs.Ytibpnpigkbodeaa
