/-
  Comparisons of words as plain tests; intervals as they are taken: by the program and by the reference.
-/
import Derived.Test.YtibpnpigkbodeaaBits
namespace Go.Proofs.Ytibpnpigkbodeaa
open Go.RowKit Flt

/-! ### Comparisons -/
def ltB (a b : Nat) : Bool := !nan a && !nan b && decide (key a < key b)
def leB (a b : Nat) : Bool := !nan a && !nan b && decide (key a ≤ key b)
def eqB (a b : Nat) : Bool := !nan a && !nan b && decide (key a = key b)

theorem t_lt {a b : Nat} (ha : a < 18446744073709551616) (hb : b < 18446744073709551616) : (FloatKind.f64.format.order a b == some .lt) = ltB a b := ord_lt ha hb
theorem t_gt {a b : Nat} (ha : a < 18446744073709551616) (hb : b < 18446744073709551616) : (FloatKind.f64.format.order a b == some .gt) = ltB b a := by
  refine (ord_gt ha hb).trans ?_
  unfold ltB
  rw [Bool.and_comm (!nan a)]
theorem t_eq {a b : Nat} (ha : a < 18446744073709551616) (hb : b < 18446744073709551616) : (FloatKind.f64.format.order a b == some .eq) = eqB a b := ord_eq ha hb
theorem t_le {a b : Nat} (ha : a < 18446744073709551616) (hb : b < 18446744073709551616) : (FloatKind.f64.format.order a b == some .lt || FloatKind.f64.format.order a b == some .eq) = leB a b := by
  rw [t_lt ha hb, t_eq ha hb]
  unfold ltB eqB leB
  cases nan a <;> cases nan b <;> simp
  rw [Bool.eq_iff_iff]
  simp only [Bool.or_eq_true, decide_eq_true_eq]
  omega
theorem t_ge {a b : Nat} (ha : a < 18446744073709551616) (hb : b < 18446744073709551616) : (FloatKind.f64.format.order a b == some .gt || FloatKind.f64.format.order a b == some .eq) = leB b a := by
  rw [t_gt ha hb, t_eq ha hb]
  unfold ltB eqB leB
  cases nan a <;> cases nan b <;> simp
  rw [Bool.eq_iff_iff]
  simp only [Bool.or_eq_true, decide_eq_true_eq]
  omega

/-! ### Intervals -/
/-- The word of +infinity, and that of -infinity. -/
def infW : Nat := 9218868437227405312
def ninfW : Nat := 18442240474082181120
theorem infW_lt : infW < 18446744073709551616 := by decide
theorem ninfW_lt : ninfW < 18446744073709551616 := by decide
theorem key_inf : key infW = 9218868437227405312 := by decide
theorem key_ninf : key ninfW = -9218868437227405312 := by decide
theorem nan_inf : nan infW = false := by decide
theorem nan_ninf : nan ninfW = false := by decide

/-- Has it numbers? -/
def hasB (lo hi : Nat) : Bool := leB lo hi && ltB lo infW && ltB ninfW hi
def loB (lo hi : Nat) : Nat := if hasB lo hi then plainB lo else infW
def hiB (lo hi : Nat) : Nat := if hasB lo hi then plainB hi else ninfW
/-- An interval as a value. -/
def iv (lo hi : Nat) : Value := .agg #[.float .f64 lo, .float .f64 hi]
def goodB (lo hi : Nat) : Bool := (eqB lo infW && eqB hi ninfW) || hasB lo hi

theorem eqB_inf {a : Nat} (ha : a < 18446744073709551616) (h : eqB a infW = true) : a = infW := by
  unfold eqB at h
  simp only [Bool.and_eq_true, Bool.not_eq_true', decide_eq_true_eq, nan_false_iff, key_inf] at h
  have h1 := key_spec a
  have h2 := rung_spec a ha
  unfold infW; omega
theorem eqB_ninf {a : Nat} (ha : a < 18446744073709551616) (h : eqB a ninfW = true) : a = ninfW := by
  unfold eqB at h
  simp only [Bool.and_eq_true, Bool.not_eq_true', decide_eq_true_eq, nan_false_iff, key_ninf] at h
  have h1 := key_spec a
  have h2 := rung_spec a ha
  unfold ninfW; omega
theorem plain_inf : plainB infW = infW := by decide
theorem plain_ninf : plainB ninfW = ninfW := by decide
theorem has_empty : hasB infW ninfW = false := by decide

/-- As it is taken: the same by both. -/
theorem taken_lo {lo hi : Nat} (hl : lo < 18446744073709551616) : (if goodB lo hi then plainB lo else infW) = loB lo hi := by
  unfold goodB loB
  cases h : hasB lo hi
  · cases h1 : eqB lo infW <;> cases h2 : eqB hi ninfW <;> simp
    rw [eqB_inf hl h1, plain_inf]
  · simp
theorem taken_hi {lo hi : Nat} (hh : hi < 18446744073709551616) : (if goodB lo hi then plainB hi else ninfW) = hiB lo hi := by
  unfold goodB hiB
  cases h : hasB lo hi
  · cases h1 : eqB lo infW <;> cases h2 : eqB hi ninfW <;> simp
    rw [eqB_ninf hh h2, plain_ninf]
  · simp
theorem loB_lt {lo hi : Nat} (hl : lo < 18446744073709551616) : loB lo hi < 18446744073709551616 := by
  unfold loB; split
  · exact plainB_lt hl
  · exact infW_lt
theorem hiB_lt {lo hi : Nat} (hh : hi < 18446744073709551616) : hiB lo hi < 18446744073709551616 := by
  unfold hiB; split
  · exact plainB_lt hh
  · exact ninfW_lt
theorem nan_plain {b : Nat} (h : nan b = false) : nan (plainB b) = false := by
  unfold plainB; split
  · decide
  · exact h
theorem key_plain {b : Nat} (hb : b < 18446744073709551616) : key (plainB b) = key b := by
  unfold plainB; split
  · rename_i h
    have h1 := key_spec b
    have h2 := rung_spec b hb
    have h3 : key 0 = 0 := by decide
    omega
  · rfl
theorem has_spec {lo hi : Nat} : hasB lo hi = true ↔ nan lo = false ∧ nan hi = false ∧ key lo ≤ key hi ∧ key lo < 9218868437227405312 ∧ -9218868437227405312 < key hi := by
  unfold hasB leB ltB
  rw [key_inf, key_ninf, nan_inf, nan_ninf]
  simp only [Bool.and_eq_true, Bool.not_eq_true', decide_eq_true_eq, Bool.not_false, Bool.true_and, Bool.and_true]
  constructor
  · rintro ⟨⟨⟨⟨a, b⟩, c⟩, _, d⟩, _, e⟩; exact ⟨a, b, c, d, e⟩
  · rintro ⟨a, b, c, d, e⟩; exact ⟨⟨⟨⟨a, b⟩, c⟩, a, d⟩, b, e⟩
theorem nan_loB (lo hi : Nat) : nan (loB lo hi) = false := by
  unfold loB; split
  · rename_i h; exact nan_plain (has_spec.1 h).1
  · exact nan_inf
theorem nan_hiB (lo hi : Nat) : nan (hiB lo hi) = false := by
  unfold hiB; split
  · rename_i h; exact nan_plain (has_spec.1 h).2.1
  · exact nan_ninf
theorem eqB_self {b : Nat} (h : nan b = false) : eqB b b = true := by unfold eqB; rw [h]; simp

theorem eqB_taken_no {lo hi : Nat} (h : hasB lo hi = false) : eqB (loB lo hi) infW = true ∧ eqB (hiB lo hi) ninfW = true := by
  unfold loB hiB; rw [h, if_neg (by decide), if_neg (by decide)]; decide
theorem eqB_taken_yes {lo hi : Nat} (hl : lo < 18446744073709551616) (h : hasB lo hi = true) : eqB (loB lo hi) infW = false := by
  unfold loB; rw [h, if_pos rfl]
  have h1 := (has_spec.1 h).2.2.2.1
  unfold eqB
  rw [key_plain hl, key_inf, decide_eq_false (by omega)]; simp

/-- The library has the law on storing a value of one cell for each kind but floats. -/
theorem run_store_float (P : Program) (w : World) (a : Addr) (m : Mode) (k : FloatKind) (b : Nat) : (store a (.float k b) m).run P w = stored P w a (.float k b) m := run_store P w a _ m rfl
theorem run_equalIn_float {P : Program} (d : Nat) (t : TypeId) (k k' : FloatKind) (x y : Nat) (w : World) (h : P.underlying t = some (.float k')) : (Op.equalIn (d + 1) t (.float k x) (.float k y)).run P w = .ok (k.format.order x y == some .eq) w := by
  simp [Op.equalIn, run_underlying h]
  rfl
theorem run_eq_float (x y : Nat) (w : World) : (Op.equalIn 9999 23 (.float .f64 x) (.float .f64 y)).run Try.prog w = .ok (FloatKind.f64.format.order x y == some .eq) w :=
  run_equalIn_float 9998 _ _ _ x y w Try.underlying23
theorem below_one (w : World) (o : Obj) : Below w.heap.size w (w.alloc o) := (Below.refl _ _).alloc (Nat.le_refl _) _
theorem chainB {w W w1 : World} (h : Below w.heap.size w W) (hb : Below W.heap.size W w1) : Below w.heap.size w w1 := h.trans (hb.mono h.size)
theorem twoB (w : World) (o p : Obj) : Below w.heap.size w ((w.alloc o).alloc p) := chainB (below_one w o) (below_one _ p)
theorem threeB (w : World) (o p q : Obj) : Below w.heap.size w (((w.alloc o).alloc p).alloc q) := chainB (twoB w o p) (below_one _ q)
theorem set2B {w W : World} (hb : Below w.heap.size w W) {g : Nat} (hg : w.heap.size ≤ g) (x y : Value) :
    Below w.heap.size w ((W.setCell ⟨g, 0, none⟩ x).setCell ⟨g, 1, none⟩ y) :=
  Below.setCell (Below.setCell hb hg _) hg _
theorem old_cell {w1 W w2 : World} {p : Addr} {v : Value} (h1 : Below w1.heap.size w1 W) (h2 : Below W.heap.size W w2) (hp : p.block < w1.heap.size) (hc : w1.cell? p = some v) : w2.cell? p = some v := by
  rw [(h1.trans (h2.mono h1.size)).cell hp]; exact hc
theorem old_frozen {w1 W w2 : World} {p : Addr} (h1 : Below w1.heap.size w1 W) (h2 : Below W.heap.size W w2) (hp : p.block < w1.heap.size) (hc : w1.frozen? p = false) : w2.frozen? p = false := by
  rw [(h1.trans (h2.mono h1.size)).frozen hp]; exact hc
theorem alloc_cell {w : World} {p : Addr} {v : Value} (o : Obj) (hp : p.block < w.heap.size) (hc : w.cell? p = some v) : (w.alloc o).cell? p = some v := by
  rw [(below_one w o).cell hp]; exact hc
theorem alloc_frozen {w : World} {p : Addr} (o : Obj) (hp : p.block < w.heap.size) (hc : w.frozen? p = false) : (w.alloc o).frozen? p = false := by
  rw [(below_one w o).frozen hp]; exact hc

/-! ### Boxes: two cells of a block, and that they are not frozen (three: a decorated interval) -/
/-- A callee leaves the box as it was. -/
theorem bN {n : Nat} {W V : World} (h : Below n W V) (g : Nat) (hg : g < n) : V.cell? ⟨g, 0, none⟩ = W.cell? ⟨g, 0, none⟩ ∧ V.frozen? ⟨g, 0, none⟩ = W.frozen? ⟨g, 0, none⟩ ∧ V.cell? ⟨g, 1, none⟩ = W.cell? ⟨g, 1, none⟩ ∧ V.frozen? ⟨g, 1, none⟩ = W.frozen? ⟨g, 1, none⟩ :=
  ⟨h.cell hg, h.frozen hg, h.cell hg, h.frozen hg⟩
theorem bN3 {n : Nat} {W V : World} (h : Below n W V) (g : Nat) (hg : g < n) : V.cell? ⟨g, 0, none⟩ = W.cell? ⟨g, 0, none⟩ ∧ V.frozen? ⟨g, 0, none⟩ = W.frozen? ⟨g, 0, none⟩ ∧ V.cell? ⟨g, 1, none⟩ = W.cell? ⟨g, 1, none⟩ ∧ V.frozen? ⟨g, 1, none⟩ = W.frozen? ⟨g, 1, none⟩ ∧ V.cell? ⟨g, 2, none⟩ = W.cell? ⟨g, 2, none⟩ ∧ V.frozen? ⟨g, 2, none⟩ = W.frozen? ⟨g, 2, none⟩ :=
  ⟨h.cell hg, h.frozen hg, h.cell hg, h.frozen hg, h.cell hg, h.frozen hg⟩
theorem bO {W V U : World} {g : Nat} {x y : Value} (h1 : Below W.heap.size W V) (h2 : Below V.heap.size V U) (hg : g < W.heap.size) (c0 : W.cell? ⟨g, 0, none⟩ = some x) (z0 : W.frozen? ⟨g, 0, none⟩ = false) (c1 : W.cell? ⟨g, 1, none⟩ = some y) (z1 : W.frozen? ⟨g, 1, none⟩ = false) :
    U.cell? ⟨g, 0, none⟩ = some x ∧ U.frozen? ⟨g, 0, none⟩ = false ∧ U.cell? ⟨g, 1, none⟩ = some y ∧ U.frozen? ⟨g, 1, none⟩ = false :=
  ⟨old_cell h1 h2 hg c0, old_frozen h1 h2 hg z0, old_cell h1 h2 hg c1, old_frozen h1 h2 hg z1⟩
theorem bO3 {W V U : World} {g : Nat} {x y d : Value} (h1 : Below W.heap.size W V) (h2 : Below V.heap.size V U) (hg : g < W.heap.size) (c0 : W.cell? ⟨g, 0, none⟩ = some x) (z0 : W.frozen? ⟨g, 0, none⟩ = false) (c1 : W.cell? ⟨g, 1, none⟩ = some y) (z1 : W.frozen? ⟨g, 1, none⟩ = false) (c2 : W.cell? ⟨g, 2, none⟩ = some d) (z2 : W.frozen? ⟨g, 2, none⟩ = false) :
    U.cell? ⟨g, 0, none⟩ = some x ∧ U.frozen? ⟨g, 0, none⟩ = false ∧ U.cell? ⟨g, 1, none⟩ = some y ∧ U.frozen? ⟨g, 1, none⟩ = false ∧ U.cell? ⟨g, 2, none⟩ = some d ∧ U.frozen? ⟨g, 2, none⟩ = false :=
  ⟨old_cell h1 h2 hg c0, old_frozen h1 h2 hg z0, old_cell h1 h2 hg c1, old_frozen h1 h2 hg z1, old_cell h1 h2 hg c2, old_frozen h1 h2 hg z2⟩
/-- Behind an alloc. -/
theorem bA {W : World} {g : Nat} {x y : Value} (hg : g < W.heap.size) (c0 : W.cell? ⟨g, 0, none⟩ = some x) (z0 : W.frozen? ⟨g, 0, none⟩ = false) (c1 : W.cell? ⟨g, 1, none⟩ = some y) (z1 : W.frozen? ⟨g, 1, none⟩ = false) :
    (∀ o, (W.alloc o).cell? ⟨g, 0, none⟩ = some x) ∧ (∀ o, (W.alloc o).frozen? ⟨g, 0, none⟩ = false) ∧ (∀ o, (W.alloc o).cell? ⟨g, 1, none⟩ = some y) ∧ ∀ o, (W.alloc o).frozen? ⟨g, 1, none⟩ = false :=
  ⟨fun o => alloc_cell o hg c0, fun o => alloc_frozen o hg z0, fun o => alloc_cell o hg c1, fun o => alloc_frozen o hg z1⟩
theorem bA3 {W : World} {g : Nat} {x y d : Value} (hg : g < W.heap.size) (c0 : W.cell? ⟨g, 0, none⟩ = some x) (z0 : W.frozen? ⟨g, 0, none⟩ = false) (c1 : W.cell? ⟨g, 1, none⟩ = some y) (z1 : W.frozen? ⟨g, 1, none⟩ = false) (c2 : W.cell? ⟨g, 2, none⟩ = some d) (z2 : W.frozen? ⟨g, 2, none⟩ = false) :
    (∀ o, (W.alloc o).cell? ⟨g, 0, none⟩ = some x) ∧ (∀ o, (W.alloc o).frozen? ⟨g, 0, none⟩ = false) ∧ (∀ o, (W.alloc o).cell? ⟨g, 1, none⟩ = some y) ∧ (∀ o, (W.alloc o).frozen? ⟨g, 1, none⟩ = false) ∧ (∀ o, (W.alloc o).cell? ⟨g, 2, none⟩ = some d) ∧ ∀ o, (W.alloc o).frozen? ⟨g, 2, none⟩ = false :=
  ⟨fun o => alloc_cell o hg c0, fun o => alloc_frozen o hg z0, fun o => alloc_cell o hg c1, fun o => alloc_frozen o hg z1, fun o => alloc_cell o hg c2, fun o => alloc_frozen o hg z2⟩
section
variable {W V : World} {g : Nat} {x y : Value} (h : (W.setCell ⟨g, 0, none⟩ x).setCell ⟨g, 1, none⟩ y = V)
include h
/-- Behind a store into the box itself. -/
theorem bW {u v : Value} (c0 : W.cell? ⟨g, 0, none⟩ = some u) (z0 : W.frozen? ⟨g, 0, none⟩ = false) (c1 : W.cell? ⟨g, 1, none⟩ = some v) (z1 : W.frozen? ⟨g, 1, none⟩ = false) : V.cell? ⟨g, 0, none⟩ = some x ∧ V.frozen? ⟨g, 0, none⟩ = false ∧ V.cell? ⟨g, 1, none⟩ = some y ∧ V.frozen? ⟨g, 1, none⟩ = false := by
  subst h
  exact ⟨by simp [go_sem, c0], by simpa using z0, by simp [go_sem, c1], by simpa using z1⟩
theorem bKc {p : Addr} {v : Value} (c : W.cell? p = some v) (hg : p.block ≠ g) : V.cell? p = some v := by
  subst h
  rw [World.cell?_of_block (w := W)]
  · exact c
  · rw [Below.heap_setCell _ _ _ _ hg, Below.heap_setCell _ _ _ _ hg]
theorem bKz {p : Addr} (z : W.frozen? p = false) : V.frozen? p = false := by
  subst h
  simpa using z
/-- Behind a store into another box. -/
theorem bK {k : Nat} {u v : Value} (hg : k ≠ g) (c0 : W.cell? ⟨k, 0, none⟩ = some u) (z0 : W.frozen? ⟨k, 0, none⟩ = false) (c1 : W.cell? ⟨k, 1, none⟩ = some v) (z1 : W.frozen? ⟨k, 1, none⟩ = false) : V.cell? ⟨k, 0, none⟩ = some u ∧ V.frozen? ⟨k, 0, none⟩ = false ∧ V.cell? ⟨k, 1, none⟩ = some v ∧ V.frozen? ⟨k, 1, none⟩ = false :=
  ⟨bKc h c0 hg, bKz h z0, bKc h c1 hg, bKz h z1⟩
theorem bS {n : Nat} (hn : n ≤ W.heap.size) : n ≤ V.heap.size := by
  subst h
  simpa using hn
theorem bB {w : World} (hb : Below w.heap.size w W) (hg : w.heap.size ≤ g) : Below w.heap.size w V := by
  subst h
  exact set2B hb hg x y
end
section
variable {W V : World} {g : Nat} {x y d : Value} (h : ((W.setCell ⟨g, 0, none⟩ x).setCell ⟨g, 1, none⟩ y).setCell ⟨g, 2, none⟩ d = V)
include h
theorem bW3 {u v e : Value} (c0 : W.cell? ⟨g, 0, none⟩ = some u) (z0 : W.frozen? ⟨g, 0, none⟩ = false) (c1 : W.cell? ⟨g, 1, none⟩ = some v) (z1 : W.frozen? ⟨g, 1, none⟩ = false) (c2 : W.cell? ⟨g, 2, none⟩ = some e) (z2 : W.frozen? ⟨g, 2, none⟩ = false) :
    V.cell? ⟨g, 0, none⟩ = some x ∧ V.frozen? ⟨g, 0, none⟩ = false ∧ V.cell? ⟨g, 1, none⟩ = some y ∧ V.frozen? ⟨g, 1, none⟩ = false ∧ V.cell? ⟨g, 2, none⟩ = some d ∧ V.frozen? ⟨g, 2, none⟩ = false := by
  subst h
  exact ⟨by simp [go_sem, c0], by simpa using z0, by simp [go_sem, c1], by simpa using z1, by simp [go_sem, c2], by simpa using z2⟩
theorem bK3c {p : Addr} {v : Value} (c : W.cell? p = some v) (hg : p.block ≠ g) : V.cell? p = some v := by
  subst h
  rw [World.cell?_of_block (w := W)]
  · exact c
  · rw [Below.heap_setCell _ _ _ _ hg, Below.heap_setCell _ _ _ _ hg, Below.heap_setCell _ _ _ _ hg]
theorem bK3z {p : Addr} (z : W.frozen? p = false) : V.frozen? p = false := by
  subst h
  simpa using z
theorem bK3 {k : Nat} {u v e : Value} (hg : k ≠ g) (c0 : W.cell? ⟨k, 0, none⟩ = some u) (z0 : W.frozen? ⟨k, 0, none⟩ = false) (c1 : W.cell? ⟨k, 1, none⟩ = some v) (z1 : W.frozen? ⟨k, 1, none⟩ = false) (c2 : W.cell? ⟨k, 2, none⟩ = some e) (z2 : W.frozen? ⟨k, 2, none⟩ = false) :
    V.cell? ⟨k, 0, none⟩ = some u ∧ V.frozen? ⟨k, 0, none⟩ = false ∧ V.cell? ⟨k, 1, none⟩ = some v ∧ V.frozen? ⟨k, 1, none⟩ = false ∧ V.cell? ⟨k, 2, none⟩ = some e ∧ V.frozen? ⟨k, 2, none⟩ = false :=
  ⟨bK3c h c0 hg, bK3z h z0, bK3c h c1 hg, bK3z h z1, bK3c h c2 hg, bK3z h z2⟩
/-- A box of two cells, behind a store into one of three. -/
theorem bK2 {k : Nat} {u v : Value} (hg : k ≠ g) (c0 : W.cell? ⟨k, 0, none⟩ = some u) (z0 : W.frozen? ⟨k, 0, none⟩ = false) (c1 : W.cell? ⟨k, 1, none⟩ = some v) (z1 : W.frozen? ⟨k, 1, none⟩ = false) : V.cell? ⟨k, 0, none⟩ = some u ∧ V.frozen? ⟨k, 0, none⟩ = false ∧ V.cell? ⟨k, 1, none⟩ = some v ∧ V.frozen? ⟨k, 1, none⟩ = false :=
  ⟨bK3c h c0 hg, bK3z h z0, bK3c h c1 hg, bK3z h z1⟩
theorem bS3 {n : Nat} (hn : n ≤ W.heap.size) : n ≤ V.heap.size := by
  subst h
  simpa using hn
theorem bB3 {w : World} (hb : Below w.heap.size w W) (hg : w.heap.size ≤ g) : Below w.heap.size w V := by
  subst h
  exact Below.setCell (set2B hb hg x y) hg _
end

/-! ### math.Inf -/
set_option maxHeartbeats 400000 in
theorem infP_walk (w : World) : Calls Try.prog 38 #[.int .i64 1] w fun e w' => e = .returned (.float .f64 infW) ∧ w' = w := by
  have h10 := run_frombits
  go_enter Try.func38, Try.ntmps38
  go_wp2
  go_ret
  exact ⟨rfl, rfl⟩
set_option maxHeartbeats 400000 in
theorem infN_walk (w : World) : Calls Try.prog 38 #[.int .i64 (-1)] w fun e w' => e = .returned (.float .f64 ninfW) ∧ w' = w := by
  have h10 := run_frombits
  go_enter Try.func38, Try.ntmps38
  go_wp2
  go_ret
  exact ⟨rfl, rfl⟩

end Go.Proofs.Ytibpnpigkbodeaa
