/-
  Plain facts on words of float64: a word's rung, its sign, its value in units of the least number, and that the order of two words is the order of their keys.
-/
import Derived.Laws.FloatArith
namespace Go.Proofs.Ytibpnpigkbodeaa.Flt

/-- Weights as plain numerals. -/
theorem binade_eq : Ieee.double.binade = 4503599627370496 := by decide
theorem sign_eq : Ieee.double.signWeight = 9223372036854775808 := by decide
theorem inf_eq : Ieee.double.infRung = 9218868437227405312 := by decide
theorem least_eq : Ieee.double.leastPlace = -1074 := by decide

def rung (b : Nat) : Nat := b % 9223372036854775808
def neg (b : Nat) : Bool := decide (9223372036854775808 ≤ b)
def nan (b : Nat) : Bool := decide (9218868437227405312 < rung b)
def fin (b : Nat) : Bool := decide (rung b < 9218868437227405312)

/-- The key of a word: its place among the numbers. -/
def key (b : Nat) : Int := if b < 9223372036854775808 then (b : Int) else -((b : Int) - 9223372036854775808)

/-- The significand and the exponent of a rung, in units of the least number. -/
def mag (r : Nat) : Nat := if r < 4503599627370496 then r else 4503599627370496 + r % 4503599627370496
def exp (r : Nat) : Nat := r / 4503599627370496 - 1
def val (r : Nat) : Nat := mag r * 2 ^ exp r

theorem val_lt {r s : Nat} (h : r < s) : val r < val s := by
  unfold val mag exp
  have hp : (0 : Nat) < 4503599627370496 := by decide
  by_cases hs : s < 4503599627370496
  · have hr : r < 4503599627370496 := by omega
    rw [if_pos hr, if_pos hs, Nat.div_eq_of_lt hr, Nat.div_eq_of_lt hs]
    simpa using h
  · rw [if_neg hs]
    by_cases hr : r < 4503599627370496
    · rw [if_pos hr, Nat.div_eq_of_lt hr]
      have h1 : 1 ≤ 2 ^ (s / 4503599627370496 - 1) := Nat.one_le_two_pow
      calc r * 2 ^ (0 - 1) = r := by simp
        _ < 4503599627370496 := hr
        _ ≤ (4503599627370496 + s % 4503599627370496) * 1 := by omega
        _ ≤ _ := Nat.mul_le_mul_left _ h1
    · rw [if_neg hr]
      by_cases hq : r / 4503599627370496 = s / 4503599627370496
      · rw [hq]
        have : r % 4503599627370496 < s % 4503599627370496 := by omega
        exact Nat.mul_lt_mul_of_pos_right (by omega) (Nat.two_pow_pos _)
      · have hlt : r / 4503599627370496 < s / 4503599627370496 := by omega
        have h1 : 1 ≤ r / 4503599627370496 := by omega
        have h2 : 2 * 2 ^ (r / 4503599627370496 - 1) ≤ 2 ^ (s / 4503599627370496 - 1) := by
          have e : 2 * 2 ^ (r / 4503599627370496 - 1) = 2 ^ (r / 4503599627370496 - 1 + 1) := by rw [Nat.pow_succ, Nat.mul_comm]
          rw [e]
          exact Nat.pow_le_pow_right (by decide) (by omega)
        have h3 : 0 < 2 ^ (r / 4503599627370496 - 1) := Nat.two_pow_pos _
        have h4 : r % 4503599627370496 < 4503599627370496 := Nat.mod_lt _ hp
        calc (4503599627370496 + r % 4503599627370496) * 2 ^ (r / 4503599627370496 - 1)
            < (4503599627370496 * 2) * 2 ^ (r / 4503599627370496 - 1) := Nat.mul_lt_mul_of_pos_right (by omega) h3
          _ = 4503599627370496 * (2 * 2 ^ (r / 4503599627370496 - 1)) := by rw [Nat.mul_assoc]
          _ ≤ 4503599627370496 * 2 ^ (s / 4503599627370496 - 1) := Nat.mul_le_mul_left _ h2
          _ ≤ _ := Nat.mul_le_mul_right _ (by omega)

theorem val_le {r s : Nat} (h : r ≤ s) : val r ≤ val s := by
  rcases Nat.lt_or_eq_of_le h with h | h
  · exact Nat.le_of_lt (val_lt h)
  · rw [h]; exact Nat.le_refl _

theorem val_lt_iff {r s : Nat} : val r < val s ↔ r < s := by
  constructor
  · intro h
    rcases Nat.lt_or_ge r s with g | g
    · exact g
    · exact absurd (val_le g) (by omega)
  · exact val_lt

theorem val_inj {r s : Nat} (h : val r = val s) : r = s := by
  rcases Nat.lt_trichotomy r s with g | g | g
  · have := val_lt g; omega
  · exact g
  · have := val_lt g; omega

theorem val_zero : val 0 = 0 := by decide

/-- A word's value in units of the least number, with its sign. -/
def ival (b : Nat) : Int := if b < 9223372036854775808 then (val (rung b) : Int) else -(val (rung b) : Int)

theorem rung_lo {b : Nat} (h : b < 9223372036854775808) : rung b = b := Nat.mod_eq_of_lt h
theorem rung_hi {b : Nat} (h : 9223372036854775808 ≤ b) (h2 : b < 18446744073709551616) : rung b = b - 9223372036854775808 := by
  unfold rung; omega

theorem key_lt_iff {a b : Nat} (ha : a < 18446744073709551616) (hb : b < 18446744073709551616) : ival a < ival b ↔ key a < key b := by
  unfold ival key
  have hz := val_zero
  by_cases h1 : a < 9223372036854775808 <;> by_cases h2 : b < 9223372036854775808
  · rw [if_pos h1, if_pos h2, if_pos h1, if_pos h2, rung_lo h1, rung_lo h2]
    have := @val_lt_iff a b; omega
  · rw [if_pos h1, if_neg h2, if_pos h1, if_neg h2]
    have := Nat.zero_le (val (rung a)); omega
  · rw [if_neg h1, if_pos h2, if_neg h1, if_pos h2, rung_hi (by omega) ha, rung_lo h2]
    by_cases h3 : a - 9223372036854775808 = 0
    · rw [h3, hz]
      have h4 := @val_lt_iff 0 b
      rw [hz] at h4; omega
    · have h4 := (@val_lt_iff 0 (a - 9223372036854775808)).2 (by omega)
      rw [hz] at h4; omega
  · rw [if_neg h1, if_neg h2, if_neg h1, if_neg h2, rung_hi (by omega) ha, rung_hi (by omega) hb]
    have := @val_lt_iff (b - 9223372036854775808) (a - 9223372036854775808); omega

theorem key_eq_iff {a b : Nat} (ha : a < 18446744073709551616) (hb : b < 18446744073709551616) : ival a = ival b ↔ key a = key b := by
  have h1 := key_lt_iff ha hb
  have h2 := key_lt_iff hb ha
  omega

theorem compare_key {a b : Nat} (ha : a < 18446744073709551616) (hb : b < 18446744073709551616) : compare (ival a) (ival b) = compare (key a) (key b) := by
  have h1 := key_lt_iff ha hb
  have h2 := key_eq_iff ha hb
  simp only [compare, compareOfLessAndEq, h1, h2]

/-- What a word reads as. -/
theorem read_num {b : Nat} (hb : b < 18446744073709551616) (hf : rung b < 9218868437227405312) :
    Ieee.double.read b = .number (neg b) (mag (rung b)) (-1074 + (exp (rung b) : Int)) := by
  have hn : (b / 9223372036854775808 % 2 == 1) = neg b := by
    unfold neg
    by_cases h : 9223372036854775808 ≤ b
    · have : b / 9223372036854775808 = 1 := by omega
      rw [this, decide_eq_true h]; rfl
    · have : b / 9223372036854775808 = 0 := by omega
      rw [this, decide_eq_false h]; rfl
  unfold Ieee.Format.read
  simp only [binade_eq, sign_eq, inf_eq, least_eq, hn]
  rw [show b % 9223372036854775808 = rung b from rfl]
  by_cases h : rung b < 4503599627370496
  · rw [if_pos h]
    unfold mag exp
    rw [if_pos h, Nat.div_eq_of_lt h]; rfl
  · rw [if_neg h, if_pos hf]
    unfold mag exp
    rw [if_neg h]

theorem neg_read {b : Nat} (hb : b < 18446744073709551616) : (b / 9223372036854775808 % 2 == 1) = neg b := by
  unfold neg
  by_cases h : 9223372036854775808 ≤ b
  · have : b / 9223372036854775808 = 1 := by omega
    rw [this, decide_eq_true h]; rfl
  · have : b / 9223372036854775808 = 0 := by omega
    rw [this, decide_eq_false h]; rfl

theorem read_inf {b : Nat} (hb : b < 18446744073709551616) (hf : rung b = 9218868437227405312) :
    Ieee.double.read b = .infinity (neg b) := by
  unfold Ieee.Format.read
  simp only [binade_eq, sign_eq, inf_eq, least_eq, neg_read hb]
  rw [show b % 9223372036854775808 = rung b from rfl, hf]
  simp

theorem read_nan {b : Nat} (hb : b < 18446744073709551616) (hf : 9218868437227405312 < rung b) :
    Ieee.double.read b = .nan (neg b) (rung b - 9218868437227405312) := by
  unfold Ieee.Format.read
  simp only [binade_eq, sign_eq, inf_eq, least_eq, neg_read hb]
  rw [show b % 9223372036854775808 = rung b from rfl, if_neg (by omega), if_neg (by omega), if_neg (by omega)]

theorem compare_scale (x y : Int) (k : Nat) : compare (x * 2 ^ k) (y * 2 ^ k) = compare x y := by
  have hp : (0 : Int) < 2 ^ k := Int.pow_pos (by decide)
  have h1 : x * 2 ^ k < y * 2 ^ k ↔ x < y := Int.mul_lt_mul_right hp
  have h2 : x * 2 ^ k = y * 2 ^ k ↔ x = y := ⟨fun h => Int.eq_of_mul_eq_mul_right (by omega) h, fun h => by rw [h]⟩
  simp only [compare, compareOfLessAndEq, h1, h2]

theorem signed_eq (s : Bool) (m u : Nat) : Ieee.signed s m u = (if s then -1 else 1) * (m : Int) * 2 ^ u := by
  unfold Ieee.signed
  rw [Nat.shiftLeft_eq]
  cases s <;> simp [Int.natCast_mul, Int.natCast_pow, Int.neg_mul]

theorem ival_eq (b : Nat) : ival b = (if neg b then -1 else 1) * (mag (rung b) : Int) * 2 ^ exp (rung b) := by
  unfold ival neg val
  by_cases h : b < 9223372036854775808
  · rw [if_pos h, decide_eq_false (by omega)]; simp [Int.natCast_mul, Int.natCast_pow]
  · rw [if_neg h, decide_eq_true (by omega)]; simp [Int.natCast_mul, Int.natCast_pow, Int.neg_mul]

theorem signed_scaled (s : Bool) (m e k : Nat) (h : k ≤ e) : Ieee.signed s m (e - k) * 2 ^ k = (if s then -1 else 1) * (m : Int) * 2 ^ e := by
  rw [signed_eq, Int.mul_assoc, ← Int.pow_add, Nat.sub_add_cancel h]

theorem order_nan_left {a b : Nat} (ha : a < 18446744073709551616) (h : nan a = true) : Ieee.double.order a b = none := by
  unfold Ieee.Format.order
  rw [read_nan ha (of_decide_eq_true h)]
  cases Ieee.double.read b <;> rfl

theorem order_nan_right {a b : Nat} (hb : b < 18446744073709551616) (h : nan b = true) : Ieee.double.order a b = none := by
  unfold Ieee.Format.order
  rw [read_nan hb (of_decide_eq_true h)]
  cases Ieee.double.read a <;> rfl

/-- The order of two words that are no NaNs is the order of their keys. -/
theorem order_key {a b : Nat} (ha : a < 18446744073709551616) (hb : b < 18446744073709551616) (na : nan a = false) (nb : nan b = false) :
    Ieee.double.order a b = some (compare (key a) (key b)) := by
  have na' : rung a ≤ 9218868437227405312 := by have := of_decide_eq_false na; omega
  have nb' : rung b ≤ 9218868437227405312 := by have := of_decide_eq_false nb; omega
  unfold Ieee.Format.order
  have cmp : ∀ x y : Int, (x < y → compare x y = .lt) ∧ (x = y → compare x y = .eq) ∧ (y < x → compare x y = .gt) := by
    intro x y
    simp only [compare, compareOfLessAndEq]
    refine ⟨fun h => by rw [if_pos h], fun h => by rw [if_neg (by omega), if_pos h], fun h => by rw [if_neg (by omega), if_neg (by omega)]⟩
  have hk : ∀ c, c < 18446744073709551616 → (neg c = true → key c = -(rung c : Int)) ∧ (neg c = false → key c = (rung c : Int)) := by
    intro c hc
    unfold neg key
    constructor
    · intro h; have h := of_decide_eq_true h
      rw [if_neg (by omega), rung_hi h hc]; omega
    · intro h; have h := of_decide_eq_false h
      rw [if_pos (by omega), rung_lo (by omega)]
  rcases Nat.lt_or_eq_of_le na' with fa | fa <;> rcases Nat.lt_or_eq_of_le nb' with fb | fb
  · rw [read_num ha fa, read_num hb fb, ← compare_key ha hb]
    simp only [Ieee.Datum.order, Option.some.injEq]
    generalize hka : exp (rung a) = ea
    generalize hkb : exp (rung b) = eb
    have hmin : ∃ k : Nat, min (-1074 + (ea : Int)) (-1074 + (eb : Int)) = -1074 + (k : Int) ∧ k ≤ ea ∧ k ≤ eb := by
      refine ⟨min ea eb, ?_, by omega, by omega⟩
      omega
    obtain ⟨k, hk1, hk2, hk3⟩ := hmin
    rw [hk1]
    have e1 : (-1074 + (ea : Int) - (-1074 + (k : Int))).toNat = ea - k := by omega
    have e2 : (-1074 + (eb : Int) - (-1074 + (k : Int))).toNat = eb - k := by omega
    rw [e1, e2, ← compare_scale _ _ k, signed_scaled _ _ _ _ hk2, signed_scaled _ _ _ _ hk3, ival_eq, ival_eq, hka, hkb]
  · rw [read_num ha fa, read_inf hb fb]
    simp only [Ieee.Datum.order, Option.some.injEq]
    have h1 := hk a ha
    have h2 := hk b hb
    have hc := cmp (key a) (key b)
    cases hb' : neg b <;> cases ha' : neg a <;> simp only [ha', hb', forall_const] at h1 h2 <;> simp <;> first | (rw [hc.1 (by simp at h1 h2; omega)]) | (rw [hc.2.2 (by simp at h1 h2; omega)])
  · rw [read_inf ha fa, read_num hb fb]
    simp only [Ieee.Datum.order, Option.some.injEq]
    have h1 := hk a ha
    have h2 := hk b hb
    have hc := cmp (key a) (key b)
    cases hb' : neg b <;> cases ha' : neg a <;> simp only [ha', hb', forall_const] at h1 h2 <;> simp <;> first | (rw [hc.1 (by simp at h1 h2; omega)]) | (rw [hc.2.2 (by simp at h1 h2; omega)])
  · rw [read_inf ha fa, read_inf hb fb]
    simp only [Ieee.Datum.order, Option.some.injEq]
    have h1 := hk a ha
    have h2 := hk b hb
    have hc := cmp (key a) (key b)
    cases hb' : neg b <;> cases ha' : neg a <;> simp only [ha', hb', forall_const] at h1 h2 <;> first | (rw [hc.2.1 (by simp at h1 h2; omega)]; rfl) | (rw [hc.1 (by simp at h1 h2; omega)]; rfl) | (rw [hc.2.2 (by simp at h1 h2; omega)]; rfl)

/-- The six comparisons, by keys. -/
theorem cmp_lt (x y : Int) : (compare x y == .lt) = decide (x < y) := by
  simp only [compare, compareOfLessAndEq]
  by_cases h : x < y
  · simp [h]
  · by_cases h2 : x = y <;> simp [h, h2]
theorem cmp_eq (x y : Int) : (compare x y == .eq) = decide (x = y) := by
  simp only [compare, compareOfLessAndEq]
  by_cases h : x < y
  · have h2 : ¬ x = y := by omega
    simp [h, h2]
  · by_cases h2 : x = y
    · simp [h2]
    · simp [h, h2]
theorem cmp_gt (x y : Int) : (compare x y == .gt) = decide (y < x) := by
  simp only [compare, compareOfLessAndEq]
  by_cases h : x < y
  · have h2 : ¬ y < x := by omega
    simp [h, h2]
  · by_cases h2 : x = y
    · simp [h2]
    · have h3 : y < x := by omega
      simp [h, h2, h3]

theorem some_beq (o p : Ordering) : ((some o : Option Ordering) == some p) = (o == p) := by cases o <;> cases p <;> rfl

theorem ord_lt {a b : Nat} (ha : a < 18446744073709551616) (hb : b < 18446744073709551616) :
    (Ieee.double.order a b == some .lt) = (!nan a && !nan b && decide (key a < key b)) := by
  cases na : nan a
  · cases nb : nan b
    · rw [order_key ha hb na nb, some_beq, cmp_lt]; simp
    · rw [order_nan_right hb nb]; rfl
  · rw [order_nan_left ha na]; rfl
theorem ord_eq {a b : Nat} (ha : a < 18446744073709551616) (hb : b < 18446744073709551616) :
    (Ieee.double.order a b == some .eq) = (!nan a && !nan b && decide (key a = key b)) := by
  cases na : nan a
  · cases nb : nan b
    · rw [order_key ha hb na nb, some_beq, cmp_eq]; simp
    · rw [order_nan_right hb nb]; rfl
  · rw [order_nan_left ha na]; rfl
theorem ord_gt {a b : Nat} (ha : a < 18446744073709551616) (hb : b < 18446744073709551616) :
    (Ieee.double.order a b == some .gt) = (!nan a && !nan b && decide (key b < key a)) := by
  cases na : nan a
  · cases nb : nan b
    · rw [order_key ha hb na nb, some_beq, cmp_gt]; simp
    · rw [order_nan_right hb nb]; rfl
  · rw [order_nan_left ha na]; rfl

theorem key_spec (b : Nat) : (b < 9223372036854775808 → key b = (b : Int)) ∧ (9223372036854775808 ≤ b → key b = 9223372036854775808 - (b : Int)) := by
  unfold key
  constructor
  · intro h; rw [if_pos h]
  · intro h; rw [if_neg (by omega)]; omega
theorem rung_spec (b : Nat) (hb : b < 18446744073709551616) : (b < 9223372036854775808 → rung b = b) ∧ (9223372036854775808 ≤ b → rung b = b - 9223372036854775808) :=
  ⟨rung_lo, fun h => rung_hi h hb⟩
theorem nan_false_iff (b : Nat) : nan b = false ↔ rung b ≤ 9218868437227405312 := by
  unfold nan; rw [decide_eq_false_iff_not]; omega
theorem nan_true_iff (b : Nat) : nan b = true ↔ 9218868437227405312 < rung b := by
  unfold nan; rw [decide_eq_true_eq]

/-- The other sign. -/
def flip (b : Nat) : Nat := if b < 9223372036854775808 then b + 9223372036854775808 else b - 9223372036854775808

theorem xor_sign {b : Nat} (h : b < 2 ^ 63) : b ^^^ 2 ^ 63 = 2 ^ 63 + b := by
  refine Nat.eq_of_testBit_eq fun i => ?_
  rw [Nat.testBit_xor, Nat.testBit_two_pow]
  rcases Nat.lt_trichotomy i 63 with g | g | g
  · rw [Nat.testBit_two_pow_add_gt g, decide_eq_false (by omega)]; simp
  · subst g
    rw [Nat.testBit_two_pow_add_eq, Nat.testBit_lt_two_pow h]; simp
  · have h1 : b < 2 ^ i := Nat.lt_of_lt_of_le h (Nat.pow_le_pow_right (by decide) (by omega))
    have h2 : 2 ^ 63 + b < 2 ^ i := Nat.lt_of_lt_of_le (show 2 ^ 63 + b < 2 ^ 64 by omega) (Nat.pow_le_pow_right (by decide) (by omega))
    rw [Nat.testBit_lt_two_pow h1, Nat.testBit_lt_two_pow h2, decide_eq_false (by omega)]; rfl

theorem negFloat_eq {b : Nat} (hb : b < 18446744073709551616) : Op.negFloat .f64 b = flip b := by
  show b ^^^ 2 ^ 63 = flip b
  unfold flip
  by_cases h : b < 9223372036854775808
  · rw [if_pos h, xor_sign (show b < 2 ^ 63 from h)]
    omega
  · rw [if_neg h]
    have h2 : b - 9223372036854775808 < 2 ^ 63 := by omega
    have e : b = (b - 9223372036854775808) ^^^ 2 ^ 63 := by
      rw [xor_sign h2]; omega
    generalize b - 9223372036854775808 = c at *
    rw [e, Nat.xor_assoc, Nat.xor_self, Nat.xor_zero]

theorem flip_lt {b : Nat} (hb : b < 18446744073709551616) : flip b < 18446744073709551616 := by unfold flip; split <;> omega
theorem flip_flip {b : Nat} (hb : b < 18446744073709551616) : flip (flip b) = b := by unfold flip; split <;> split <;> omega
theorem rung_flip {b : Nat} (hb : b < 18446744073709551616) : rung (flip b) = rung b := by unfold flip rung; split <;> omega
theorem nan_flip {b : Nat} (hb : b < 18446744073709551616) : nan (flip b) = nan b := by unfold nan; rw [rung_flip hb]
theorem key_flip {b : Nat} (hb : b < 18446744073709551616) : key (flip b) = - key b := by unfold key flip; split <;> split <;> omega

end Go.Proofs.Ytibpnpigkbodeaa.Flt
