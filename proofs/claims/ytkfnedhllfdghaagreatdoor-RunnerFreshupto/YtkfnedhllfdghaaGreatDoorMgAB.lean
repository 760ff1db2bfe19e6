import Derived.Laws.FloatBits

section
namespace Gn
open Ieee

def SGN : Nat := 9223372036854775808
def INF : Nat := 9218868437227405312
def NAN : Nat := 9221120237041090561
def HLF : Nat := 4503599627370496

theorem sw : double.signWeight = 9223372036854775808 := by decide
theorem bin : double.binade = 4503599627370496 := by decide
theorem infr : double.infRung = 9218868437227405312 := by decide
theorem lp : double.leastPlace = -1074 := by decide

/-- round half even of n / 2^d -/
def rhe (n d : Nat) : Nat := n / 2 ^ d + (if 2 ^ d < 2 * (n % 2 ^ d) ∨ (2 ^ d = 2 * (n % 2 ^ d) ∧ n / 2 ^ d % 2 = 1) then 1 else 0)

theorem cut_eq (neg : Bool) (n d : Nat) : Toward.even.cut neg n d = rhe n d := by
  unfold Toward.cut rhe
  by_cases h : d ≤ n.log2 + 2
  · have : min d (n.log2 + 2) = d := by omega
    simp only [this, Nat.one_shiftLeft]
    congr 1
    generalize 2 ^ d = g
    generalize n % g = r
    generalize n / g = q
    by_cases h1 : g < 2 * r
    · simp [h1]
    · by_cases h2 : g = 2 * r ∧ q % 2 = 1
      · obtain ⟨rfl, h3⟩ := h2; simp [h3]
      · have h4 : ¬ (g < 2 * r ∨ g = 2 * r ∧ q % 2 = 1) := by omega
        rw [if_neg h4]
        simp only [h1, decide_false, Bool.false_or]
        by_cases h5 : g = 2 * r
        · have h6 : ¬ q % 2 = 1 := fun h => h2 ⟨h5, h⟩
          simp [h6]
        · simp [h5]
  · have hm : min d (n.log2 + 2) = n.log2 + 2 := by omega
    have h1 : n < 2 ^ (n.log2 + 1) := Nat.lt_log2_self
    have h2 : 2 ^ (n.log2 + 2) = 2 * 2 ^ (n.log2 + 1) := by rw [Nat.pow_succ, Nat.mul_comm]
    have h3 : 2 ^ (n.log2 + 2) ≤ 2 ^ d := Nat.pow_le_pow_right (by omega) (by omega)
    simp only [hm, Nat.one_shiftLeft]
    have q1 : n / 2 ^ (n.log2 + 2) = 0 := Nat.div_eq_of_lt (by omega)
    have q2 : n % 2 ^ (n.log2 + 2) = n := Nat.mod_eq_of_lt (by omega)
    have q3 : n / 2 ^ d = 0 := Nat.div_eq_of_lt (by omega)
    have q4 : n % 2 ^ d = n := Nat.mod_eq_of_lt (by omega)
    rw [q1, q2, q3, q4, if_neg (by omega)]
    have h5 : ¬ (2 ^ (n.log2 + 2) < 2 * n) := by omega
    simp [h5]

theorem rhe_zero (n : Nat) : rhe n 0 = n := by simp [rhe]; omega

theorem rhe_mul (n d k : Nat) : rhe (n * 2 ^ k) (d + k) = rhe n d := by
  unfold rhe
  have hp : 0 < 2 ^ k := Nat.two_pow_pos k
  rw [Nat.pow_add, Nat.mul_div_mul_right _ _ hp, Nat.mul_mod_mul_right, ← Nat.mul_assoc]
  congr 1
  have e1 : (2 ^ d * 2 ^ k < 2 * (n % 2 ^ d) * 2 ^ k) ↔ (2 ^ d < 2 * (n % 2 ^ d)) := Nat.mul_lt_mul_right hp
  have e2 : (2 ^ d * 2 ^ k = 2 * (n % 2 ^ d) * 2 ^ k) ↔ (2 ^ d = 2 * (n % 2 ^ d)) := Nat.mul_right_cancel_iff hp
  simp only [e1, e2]

theorem rhe_exact (n d : Nat) : rhe (n * 2 ^ d) d = n := by
  have := rhe_mul n 0 d
  rw [Nat.zero_add] at this; rw [this, rhe_zero]

/-- the rung of the nearest number to mag * 2^place -/
def rung (mag : Nat) (place : Int) : Nat :=
  if mag = 0 then 0 else
  let last := max (place + mag.log2 - 52) (-1074)
  min ((last + 1074).toNat * 4503599627370496 + rhe (mag * 2 ^ (place - last).toNat) (last - place).toNat) 9218868437227405312

theorem nearest_eq (neg : Bool) (m : Nat) (e : Int) : double.nearest neg m e = double.word neg (rung m e) := by
  unfold Format.nearest rung
  by_cases h : m = 0
  · simp [h]
  · simp only [h, if_false, cut_eq, bin, infr, lp, Nat.shiftLeft_eq]
    congr 1

theorem rung_le (m : Nat) (e : Int) : rung m e ≤ 9218868437227405312 := by
  unfold rung; split
  · omega
  · exact Nat.min_le_right _ _

theorem log2_mul_pow (m k : Nat) (h : m ≠ 0) : (m * 2 ^ k).log2 = m.log2 + k := by
  rw [Nat.log2_eq_iff (by have := Nat.two_pow_pos k; have := Nat.mul_pos (Nat.pos_of_ne_zero h) this; omega)]
  have h1 : 2 ^ m.log2 ≤ m := Nat.log2_self_le h
  have h2 : m < 2 ^ (m.log2 + 1) := Nat.lt_log2_self
  have hp := Nat.two_pow_pos k
  refine ⟨?_, ?_⟩
  · rw [Nat.pow_add]; exact Nat.mul_le_mul_right _ h1
  · rw [show m.log2 + k + 1 = (m.log2 + 1) + k from by omega, Nat.pow_add]; exact Nat.mul_lt_mul_of_pos_right h2 hp

/-- nearest goes by the value alone -/
theorem rung_shift (m k : Nat) (e : Int) : rung (m * 2 ^ k) (e - k) = rung m e := by
  unfold rung
  by_cases h : m = 0
  · simp [h]
  · have h' : m * 2 ^ k ≠ 0 := Nat.mul_ne_zero h (by have := Nat.two_pow_pos k; omega)
    simp only [h, h', if_false, log2_mul_pow m k h]
    have e1 : max (e - (k : Int) + ((m.log2 + k : Nat) : Int) - 52) (-1074) = max (e + (m.log2 : Int) - 52) (-1074) := by omega
    rw [e1]
    generalize max (e + (m.log2 : Int) - 52) (-1074) = last
    congr 2
    by_cases h1 : last ≤ e - k
    · have a1 : (last - (e - (k:Int))).toNat = 0 := by omega
      have a2 : (last - e).toNat = 0 := by omega
      rw [a1, a2, rhe_zero, rhe_zero, Nat.mul_assoc, ← Nat.pow_add]
      congr 2; omega
    · by_cases h2 : last ≤ e
      · have a1 : (e - (k:Int) - last).toNat = 0 := by omega
        have a2 : (last - e).toNat = 0 := by omega
        rw [a1, a2, rhe_zero, Nat.pow_zero, Nat.mul_one]
        have a3 : k = (e - last).toNat + (last - (e - (k:Int))).toNat := by omega
        generalize (last - (e - (k:Int))).toNat = j at *
        generalize (e - last).toNat = i at *
        subst a3
        rw [Nat.pow_add, ← Nat.mul_assoc, rhe_exact]
      · have a1 : (e - (k:Int) - last).toNat = 0 := by omega
        have a2 : (e - last).toNat = 0 := by omega
        have a3 : (last - (e - (k:Int))).toNat = (last - e).toNat + k := by omega
        rw [a1, a2, a3, Nat.pow_zero, Nat.mul_one, Nat.mul_one, rhe_mul]
end Gn
end

section
namespace Gn
open Ieee

/-- what a word of sign s and rung r stands for -/
def rd (s : Bool) (r : Nat) : Datum :=
  if r < 4503599627370496 then .number s r (-1074)
  else if r < 9218868437227405312 then .number s (4503599627370496 + r % 4503599627370496) (-1074 + (r / 4503599627370496 - 1 : Nat))
  else if r = 9218868437227405312 then .infinity s else .nan s (r - 9218868437227405312)

def wd (s : Bool) (r : Nat) : Nat := if s then 9223372036854775808 + r else r

theorem word_wd (s : Bool) (r : Nat) : double.word s r = wd s r := by simp [Format.word, wd, sw]

theorem wd_cases (a : Nat) (h : a < 18446744073709551616) : ∃ s r, r < 9223372036854775808 ∧ a = wd s r := by
  by_cases h1 : a < 9223372036854775808
  · exact ⟨false, a, h1, rfl⟩
  · exact ⟨true, a - 9223372036854775808, by omega, by simp [wd]; omega⟩

theorem read_wd (s : Bool) (r : Nat) (h : r < 9223372036854775808) : double.read (wd s r) = rd s r := by
  unfold Format.read rd
  simp only [sw, bin, infr, lp]
  have h1 : wd s r % 9223372036854775808 = r := by cases s <;> simp [wd] <;> omega
  have h2 : (wd s r / 9223372036854775808 % 2 == 1) = s := by
    cases s
    · simp [wd]; omega
    · simp [wd]; omega
  rw [h1, h2]

theorem wd_lt (s : Bool) (r : Nat) (h : r < 9223372036854775808) : wd s r < 18446744073709551616 := by
  cases s <;> simp [wd] <;> omega

theorem wd_inj {s t : Bool} {r q : Nat} (h : r < 9223372036854775808) (h' : q < 9223372036854775808) (e : wd s r = wd t q) : s = t ∧ r = q := by
  cases s <;> cases t <;> simp [wd] at e <;> first | exact ⟨rfl, by omega⟩ | omega

def canonW (a : Nat) : Nat := if a % 9223372036854775808 > 9218868437227405312 then 9221120237041090561 else a
def flipW (a : Nat) : Nat := if a < 9223372036854775808 then a + 9223372036854775808 else a - 9223372036854775808
def negW (a : Nat) : Nat := canonW (flipW a)
def absW (a : Nat) : Nat := canonW (a % 9223372036854775808)
def isNan (a : Nat) : Bool := decide (9218868437227405312 < a % 9223372036854775808)
def addW (a b : Nat) : Nat := (double.add a b).getD 9221120237041090561
def mulW (a b : Nat) : Nat := (double.mul a b).getD 9221120237041090561
def divW (a b : Nat) : Nat := (double.div a b).getD 9221120237041090561
def subW (a b : Nat) : Nat := addW a (negW b)

theorem wd_mod (s : Bool) (r : Nat) (h : r < 9223372036854775808) : wd s r % 9223372036854775808 = r := by
  cases s <;> simp [wd] <;> omega
theorem flip_wd (s : Bool) (r : Nat) (h : r < 9223372036854775808) : flipW (wd s r) = wd (!s) r := by
  cases s
  · show (if r < 9223372036854775808 then r + 9223372036854775808 else r - 9223372036854775808) = 9223372036854775808 + r
    rw [if_pos h]; omega
  · show (if 9223372036854775808 + r < 9223372036854775808 then 9223372036854775808 + r + 9223372036854775808 else 9223372036854775808 + r - 9223372036854775808) = r
    rw [if_neg (by omega)]; omega
theorem canon_wd (s : Bool) (r : Nat) (h : r < 9223372036854775808) : canonW (wd s r) = if 9218868437227405312 < r then 9221120237041090561 else wd s r := by
  unfold canonW; rw [wd_mod s r h]
theorem neg_wd (s : Bool) (r : Nat) (h : r < 9223372036854775808) : negW (wd s r) = if 9218868437227405312 < r then 9221120237041090561 else wd (!s) r := by
  unfold negW; rw [flip_wd s r h, canon_wd _ r h]
theorem abs_wd (s : Bool) (r : Nat) (h : r < 9223372036854775808) : absW (wd s r) = if 9218868437227405312 < r then 9221120237041090561 else r := by
  unfold absW canonW; rw [wd_mod s r h, Nat.mod_eq_of_lt h]

/-- the word of a datum that is no NaN is no NaN -/
theorem write_number (s : Bool) (m : Nat) (e : Int) : double.write (.number s m e) = wd s (rung m e) := by
  show double.nearest s m e = _
  rw [nearest_eq, word_wd]
theorem write_inf (s : Bool) : double.write (.infinity s) = wd s 9218868437227405312 := by
  show double.word s double.infRung = _
  rw [infr, word_wd]

def okD : Datum → Prop
  | .nan .. => False
  | _ => True

theorem canon_write {d : Datum} (h : okD d) : canonW (double.write d) = double.write d := by
  cases d with
  | number s m e =>
    rw [write_number, canon_wd _ _ (by have := rung_le m e; omega), if_neg (by have := rung_le m e; omega)]
  | infinity s => rw [write_inf, canon_wd _ _ (by omega), if_neg (by omega)]
  | nan s t => exact h.elim

theorem sum_ok {x y d : Datum} (h : x.sum y = some d) : okD d := by
  cases x <;> cases y <;> simp only [Datum.sum] at h <;> first | (cases h; trivial) | (cases h; done) | skip
  split at h <;> cases h; trivial
theorem product_ok {x y d : Datum} (h : x.product y = some d) : okD d := by
  cases x <;> cases y <;> simp only [Datum.product] at h <;> first | (cases h; trivial) | (cases h; done) | (split at h <;> cases h; trivial)
theorem quotient_ok {k : Nat} {x y d : Datum} (h : x.quotient k y = some d) : okD d := by
  cases x <;> cases y <;> simp only [Datum.quotient] at h <;> first | (cases h; trivial) | (cases h; done) | skip
  split at h
  · split at h <;> cases h; trivial
  · cases h; trivial

theorem canon_nan : canonW 9221120237041090561 = 9221120237041090561 := by decide

theorem canon_add (a b : Nat) : canonW (addW a b) = addW a b := by
  unfold addW Format.add
  cases h : (double.read a).sum (double.read b) with
  | none => exact canon_nan
  | some d => exact canon_write (sum_ok h)
theorem canon_mul (a b : Nat) : canonW (mulW a b) = mulW a b := by
  unfold mulW Format.mul
  cases h : (double.read a).product (double.read b) with
  | none => exact canon_nan
  | some d => exact canon_write (product_ok h)
theorem canon_div (a b : Nat) : canonW (divW a b) = divW a b := by
  unfold divW Format.div
  cases h : (double.read a).quotient (double.fractionBits + 2) (double.read b) with
  | none => exact canon_nan
  | some d => exact canon_write (quotient_ok h)

theorem sum_comm (x y : Datum) : x.sum y = y.sum x := by
  cases x <;> cases y <;> simp only [Datum.sum]
  · rename_i s m i t n j
    rw [Int.min_comm i j]
    generalize (min j i) = b
    rw [Int.add_comm (signed s m _), Bool.and_comm s t]
  · rename_i s t
    by_cases h : s = t
    · subst h; rfl
    · rw [if_neg h, if_neg (fun h' => h h'.symm)]
theorem product_comm (x y : Datum) : x.product y = y.product x := by
  cases x <;> cases y <;> simp only [Datum.product]
  · rename_i s m i t n j
    rw [Nat.mul_comm, Int.add_comm, Bool.xor_comm]
  · rw [Bool.xor_comm]
theorem add_comm (a b : Nat) : addW a b = addW b a := by unfold addW Format.add; rw [sum_comm]
theorem mul_comm (a b : Nat) : mulW a b = mulW b a := by unfold mulW Format.mul; rw [product_comm]
end Gn
end

section
namespace Gn
open Ieee

def ans (o : Option Datum) : Nat := (o.map double.write).getD 9221120237041090561
theorem add_ans (a b : Nat) : addW a b = ans ((double.read a).sum (double.read b)) := rfl
theorem mul_ans (a b : Nat) : mulW a b = ans ((double.read a).product (double.read b)) := rfl
theorem div_ans (a b : Nat) : divW a b = ans ((double.read a).quotient (double.fractionBits + 2) (double.read b)) := rfl

theorem rd_not (s : Bool) (r : Nat) : rd (!s) r = (rd s r).opposite := by
  unfold rd; split
  · rfl
  · split
    · rfl
    · split <;> rfl
theorem rd_nan (s : Bool) (r : Nat) (h : 9218868437227405312 < r) : rd s r = .nan s (r - 9218868437227405312) := by
  unfold rd; rw [if_neg (by omega), if_neg (by omega), if_neg (by omega)]
theorem rd_ok (s : Bool) (r : Nat) (h : ¬ 9218868437227405312 < r) : okD (rd s r) := by
  unfold rd; split
  · trivial
  · split
    · trivial
    · rw [if_pos (by omega)]; trivial
theorem read_NAN : double.read 9221120237041090561 = .nan false 2251799813685249 := by decide

def IsNan (d : Datum) : Prop := ∃ s t, d = .nan s t
theorem sum_nan_left {x : Datum} (y : Datum) (h : IsNan x) : x.sum y = none := by
  obtain ⟨s, t, rfl⟩ := h; cases y <;> rfl
theorem sum_nan_right (x : Datum) {y : Datum} (h : IsNan y) : x.sum y = none := by
  obtain ⟨s, t, rfl⟩ := h; cases x <;> rfl
theorem product_nan_left {x : Datum} (y : Datum) (h : IsNan x) : x.product y = none := by
  obtain ⟨s, t, rfl⟩ := h; cases y <;> rfl
theorem product_nan_right (x : Datum) {y : Datum} (h : IsNan y) : x.product y = none := by
  obtain ⟨s, t, rfl⟩ := h; cases x <;> rfl
theorem quotient_nan_left (k : Nat) {x : Datum} (y : Datum) (h : IsNan x) : x.quotient k y = none := by
  obtain ⟨s, t, rfl⟩ := h; cases y <;> rfl
theorem quotient_nan_right (k : Nat) (x : Datum) {y : Datum} (h : IsNan y) : x.quotient k y = none := by
  obtain ⟨s, t, rfl⟩ := h; cases x <;> rfl
theorem nan_NAN : IsNan (double.read 9221120237041090561) := ⟨_, _, read_NAN⟩

/-- a number handed in: a NaN (so is what Neg makes of it), or Neg turns the sign alone -/
theorem read_neg (a : Nat) (h : a < 18446744073709551616) :
    (IsNan (double.read a) ∧ IsNan (double.read (negW a)) ∧ negW a = 9221120237041090561 ∧ canonW a = 9221120237041090561) ∨ (okD (double.read a) ∧ double.read (negW a) = (double.read a).opposite ∧ canonW a = a ∧ negW (negW a) = a) := by
  obtain ⟨s, r, hr, rfl⟩ := wd_cases a h
  rw [neg_wd s r hr, read_wd s r hr, canon_wd s r hr]
  by_cases hn : 9218868437227405312 < r
  · rw [if_pos hn, if_pos hn]; exact .inl ⟨⟨_, _, rd_nan s r hn⟩, nan_NAN, rfl, rfl⟩
  · rw [if_neg hn, if_neg hn, read_wd _ r hr, rd_not, neg_wd _ r hr, if_neg hn, Bool.not_not]; exact .inr ⟨rd_ok s r hn, rfl, rfl, rfl⟩

theorem neg_NAN : negW 9221120237041090561 = 9221120237041090561 := by decide

theorem neg_write {d : Datum} (h : okD d) : negW (double.write d) = double.write d.opposite := by
  cases d with
  | number s m e =>
    have := rung_le m e
    show _ = double.write (.number (!s) m e)
    rw [write_number, write_number, neg_wd _ _ (by omega), if_neg (by omega)]
  | infinity s =>
    show _ = double.write (.infinity (!s))
    rw [write_inf, write_inf, neg_wd _ _ (by omega), if_neg (by omega)]
  | nan s t => exact h.elim

theorem opp_opp (d : Datum) : d.opposite.opposite = d := by cases d <;> simp [Datum.opposite]

theorem signed_not (s : Bool) (m k : Nat) : signed (!s) m k = - signed s m k := by
  cases s <;> simp [signed]

/-- a sum of turned numbers: turned, or a zero -/
theorem sum_opp (x y : Datum) : (x.opposite.sum y.opposite = (x.sum y).map Datum.opposite) ∨ ∃ s e, x.sum y = some (.number s 0 e) := by
  cases x <;> cases y <;> simp only [Datum.sum, Datum.opposite, Option.map_none, Option.map_some, true_or]
  · rename_i s m i t n j
    by_cases h : signed s m (i - min i j).toNat + signed t n (j - min i j).toNat = 0
    · right; exact ⟨s && t, min i j, by simp [h]⟩
    · left
      have h' : ¬ (- (signed s m (i - min i j).toNat) + - (signed t n (j - min i j).toNat) = 0) := by omega
      rw [signed_not, signed_not, if_neg h, if_neg h']
      generalize signed s m (i - min i j).toNat = u at *
      generalize signed t n (j - min i j).toNat = v at *
      have e1 : (-u + -v).natAbs = (u + v).natAbs := by omega
      have e2 : decide (-u + -v < 0) = !decide (u + v < 0) := by
        by_cases hh : u + v < 0
        · simp [hh]; omega
        · simp [hh]; omega
      rw [e1, e2]
  · rename_i s t
    left
    cases s <;> cases t <;> simp [Datum.opposite]

theorem ans_zero (s : Bool) (e : Int) : ans (some (.number s 0 e)) % 9223372036854775808 = 0 := by
  show double.write (.number s 0 e) % _ = 0
  rw [write_number]; simp [rung, wd]; cases s <;> simp

theorem neg_ans {o : Option Datum} (h : ∀ d, o = some d → okD d) : negW (ans o) = ans (o.map Datum.opposite) := by
  cases o with
  | none => exact neg_NAN
  | some d => exact neg_write (h d rfl)

/-- a difference the other way round -/
theorem sub_turn (a b : Nat) (ha : a < 18446744073709551616) (hb : b < 18446744073709551616) : subW a b % 9223372036854775808 = 0 ∨ subW b a = negW (subW a b) := by
  unfold subW
  rw [add_ans, add_ans]
  rcases read_neg a ha with ⟨na, na', _, _⟩ | ⟨oa, ea, _⟩
  · right; rw [sum_nan_left _ na, sum_nan_right _ na']; exact neg_NAN.symm
  · rcases read_neg b hb with ⟨nb, nb', _, _⟩ | ⟨ob, eb, _⟩
    · right; rw [sum_nan_left _ nb, sum_nan_right _ nb']; exact neg_NAN.symm
    · rw [ea, eb]
      rcases sum_opp (double.read a) (double.read b).opposite with h | ⟨s, e, h⟩
      · right
        rw [neg_ans (fun d hd => sum_ok hd), ← h, opp_opp, sum_comm]
      · left; rw [h]; exact ans_zero s e

/-- signs go through a sum -/
theorem add_neg (a b : Nat) (ha : a < 18446744073709551616) (hb : b < 18446744073709551616) : addW a b % 9223372036854775808 = 0 ∨ addW (negW a) (negW b) = negW (addW a b) := by
  rw [add_ans, add_ans]
  rcases read_neg a ha with ⟨na, na', _, _⟩ | ⟨oa, ea, _⟩
  · right; rw [sum_nan_left _ na, sum_nan_left _ na']; exact neg_NAN.symm
  · rcases read_neg b hb with ⟨nb, nb', _, _⟩ | ⟨ob, eb, _⟩
    · right; rw [sum_nan_right _ nb, sum_nan_right _ nb']; exact neg_NAN.symm
    · rw [ea, eb]
      rcases sum_opp (double.read a) (double.read b) with h | ⟨s, e, h⟩
      · right; rw [neg_ans (fun d hd => sum_ok hd), ← h]
      · left; rw [h]; exact ans_zero s e

theorem product_opp (x y : Datum) : x.opposite.product y = (x.product y).map Datum.opposite := by
  cases x <;> cases y <;> simp only [Datum.product, Datum.opposite, Option.map_none, Option.map_some, Bool.not_xor]
  · rename_i s m i t
    by_cases h : m = 0
    · simp [h]
    · simp [h, Datum.opposite]
  · rename_i t s m i
    by_cases h : m = 0
    · simp [h]
    · simp [h, Datum.opposite]
theorem quotient_opp (k : Nat) (x y : Datum) : x.opposite.quotient k y = (x.quotient k y).map Datum.opposite := by
  cases x <;> cases y <;> simp only [Datum.quotient, Datum.opposite, Option.map_none, Option.map_some, Bool.not_xor]
  rename_i s m i t n j
  by_cases h : n = 0
  · by_cases h' : m = 0
    · simp [h, h']
    · simp [h, h', Datum.opposite]
  · simp [h, Datum.opposite]

theorem mul_neg (a b : Nat) (ha : a < 18446744073709551616) : mulW (negW a) b = negW (mulW a b) := by
  rw [mul_ans, mul_ans]
  rcases read_neg a ha with ⟨na, na', _, _⟩ | ⟨oa, ea, _⟩
  · rw [product_nan_left _ na, product_nan_left _ na']; exact neg_NAN.symm
  · rw [ea, product_opp, neg_ans (fun d hd => product_ok hd)]
theorem div_neg (a b : Nat) (ha : a < 18446744073709551616) : divW (negW a) b = negW (divW a b) := by
  rw [div_ans, div_ans]
  rcases read_neg a ha with ⟨na, na', _, _⟩ | ⟨oa, ea, _⟩
  · rw [quotient_nan_left _ _ na, quotient_nan_left _ _ na']; exact neg_NAN.symm
  · rw [ea, quotient_opp, neg_ans (fun d hd => quotient_ok hd)]

theorem canon_lt (a : Nat) (h : a < 18446744073709551616) : canonW a < 18446744073709551616 := by unfold canonW; split <;> omega
theorem flip_lt (a : Nat) (h : a < 18446744073709551616) : flipW a < 18446744073709551616 := by unfold flipW; split <;> omega
theorem neg_lt (a : Nat) (h : a < 18446744073709551616) : negW a < 18446744073709551616 := canon_lt _ (flip_lt a h)
theorem abs_lt (a : Nat) : absW a < 18446744073709551616 := canon_lt _ (by omega)
theorem ans_lt {o : Option Datum} : ans o < 18446744073709551616 := by
  cases o with
  | none => decide
  | some d => exact double.write_lt d
theorem add_lt (a b : Nat) : addW a b < 18446744073709551616 := ans_lt
theorem mul_lt (a b : Nat) : mulW a b < 18446744073709551616 := ans_lt
theorem div_lt (a b : Nat) : divW a b < 18446744073709551616 := ans_lt

theorem neg_neg (a : Nat) (h : a < 18446744073709551616) : negW (negW a) = canonW a := by
  rcases read_neg a h with ⟨_, _, e, e'⟩ | ⟨_, _, e, e'⟩
  · rw [e, e', neg_NAN]
  · rw [e, e']
theorem mul_neg_neg (a b : Nat) (ha : a < 18446744073709551616) (hb : b < 18446744073709551616) : mulW (negW a) (negW b) = mulW a b := by
  rw [mul_neg a _ ha, mul_comm, mul_neg b _ hb, mul_comm, neg_neg _ (mul_lt _ _), canon_mul]
theorem abs_neg (a : Nat) (h : a < 18446744073709551616) : absW (negW a) = absW a := by
  obtain ⟨s, r, hr, rfl⟩ := wd_cases a h
  rw [neg_wd s r hr, abs_wd s r hr]
  by_cases hn : 9218868437227405312 < r
  · rw [if_pos hn, if_pos hn]; decide
  · rw [if_neg hn, if_neg hn, abs_wd _ r hr, if_neg hn]
theorem abs_abs (a : Nat) (h : a < 18446744073709551616) : absW (absW a) = absW a := by
  obtain ⟨s, r, hr, rfl⟩ := wd_cases a h
  rw [abs_wd s r hr]
  by_cases hn : 9218868437227405312 < r
  · rw [if_pos hn]; decide
  · rw [if_neg hn]; have := abs_wd false r hr; rw [if_neg hn] at this; exact this
end Gn
end

section
namespace Gn
open Ieee

/-- the amount of a rung, in units of 2^-1074 -/
def vl (r : Nat) : Nat := if r < 4503599627370496 then r else (4503599627370496 + r % 4503599627370496) * 2 ^ (r / 4503599627370496 - 1)
def sgn (s : Bool) (v : Nat) : Int := if s then -(v : Int) else (v : Int)

theorem vl_lt {r q : Nat} (h : r < q) : vl r < vl q := by
  unfold vl
  by_cases h1 : q < 4503599627370496
  · rw [if_pos (by omega), if_pos h1]; exact h
  · rw [if_neg h1]
    have hp : ∀ k, 1 ≤ 2 ^ k := fun k => Nat.two_pow_pos k
    by_cases h2 : r < 4503599627370496
    · rw [if_pos h2]
      have := Nat.mul_le_mul_left (4503599627370496 + q % 4503599627370496) (hp (q / 4503599627370496 - 1))
      omega
    · rw [if_neg h2]
      by_cases h3 : r / 4503599627370496 = q / 4503599627370496
      · rw [h3]; exact Nat.mul_lt_mul_of_pos_right (by omega) (hp _)
      · have e : q / 4503599627370496 - 1 = (q / 4503599627370496 - 1 - (r / 4503599627370496)) + 1 + (r / 4503599627370496 - 1) := by omega
        rw [e, Nat.pow_add, ← Nat.mul_assoc]
        refine Nat.mul_lt_mul_of_pos_right ?_ (hp _)
        rw [Nat.pow_succ]
        have := hp (q / 4503599627370496 - 1 - (r / 4503599627370496))
        generalize 2 ^ (q / 4503599627370496 - 1 - (r / 4503599627370496)) = z at *
        have h4 : 4503599627370496 * 2 ≤ (4503599627370496 + q % 4503599627370496) * (z * 2) := by
          rw [← Nat.mul_assoc]
          refine Nat.mul_le_mul_right 2 ?_
          have := Nat.mul_le_mul_left (4503599627370496 + q % 4503599627370496) this
          omega
        have : r % 4503599627370496 < 4503599627370496 := Nat.mod_lt _ (by decide)
        omega
theorem vl_inj {r q : Nat} (h : vl r = vl q) : r = q := by
  rcases Nat.lt_trichotomy r q with h1 | h1 | h1
  · have := vl_lt h1; omega
  · exact h1
  · have := vl_lt h1; omega
theorem vl_lt_iff {r q : Nat} : vl r < vl q ↔ r < q := by
  constructor
  · intro h
    rcases Nat.lt_trichotomy r q with h1 | h1 | h1
    · exact h1
    · subst h1; omega
    · have := vl_lt h1; omega
  · exact vl_lt
theorem vl_zero : vl 0 = 0 := rfl
theorem vl_pos {r : Nat} (h : 0 < r) : 0 < vl r := by have := vl_lt h; rw [vl_zero] at this; exact this

theorem signed_scale (s : Bool) (m k c : Nat) : signed s m k * 2 ^ c = signed s m (k + c) := by
  unfold signed
  have e : ((m <<< (k + c) : Nat) : Int) = ((m <<< k : Nat) : Int) * 2 ^ c := by
    rw [Nat.shiftLeft_eq, Nat.shiftLeft_eq, Nat.pow_add, ← Nat.mul_assoc]; simp
  cases s
  · simp only [e]; rfl
  · simp only [e, if_true]; rw [Int.neg_mul]
theorem compare_scale (x y : Int) (c : Nat) : compare (x * 2 ^ c) (y * 2 ^ c) = compare x y := by
  have hp : (0 : Int) < 2 ^ c := Int.pow_pos (by decide)
  simp only [compare, compareOfLessAndEq]
  have e1 : (x * 2 ^ c < y * 2 ^ c) ↔ x < y := Int.mul_lt_mul_right hp
  have e2 : (x * 2 ^ c = y * 2 ^ c) ↔ x = y := by
    constructor
    · intro h; exact Int.eq_of_mul_eq_mul_right (by omega) h
    · intro h; rw [h]
  simp only [e1, e2]

/-- a number of the format with its amount -/
def Num (d : Datum) (s : Bool) (v : Nat) : Prop := ∃ m i, d = .number s m i ∧ -1074 ≤ i ∧ m * 2 ^ (i + 1074).toNat = v

theorem rd_num (s : Bool) (r : Nat) (h : r < 9218868437227405312) : Num (rd s r) s (vl r) := by
  unfold rd vl
  by_cases h1 : r < 4503599627370496
  · rw [if_pos h1, if_pos h1]; exact ⟨r, -1074, rfl, by omega, by simp⟩
  · rw [if_neg h1, if_pos h, if_neg h1]
    exact ⟨_, _, rfl, by omega, by congr 2; omega⟩

theorem signed_val (s : Bool) (m : Nat) (i b : Int) (hb : -1074 ≤ b) (hi : b ≤ i) : signed s m (i - b).toNat * 2 ^ (b + 1074).toNat = sgn s (m * 2 ^ (i + 1074).toNat) := by
  rw [signed_scale]
  have e : (i - b).toNat + (b + 1074).toNat = (i + 1074).toNat := by omega
  rw [e]; unfold signed sgn; rw [Nat.shiftLeft_eq]

theorem order_num {x y : Datum} {s t : Bool} {u v : Nat} (hx : Num x s u) (hy : Num y t v) : x.order y = some (compare (sgn s u) (sgn t v)) := by
  obtain ⟨m, i, rfl, hi, rfl⟩ := hx
  obtain ⟨n, j, rfl, hj, rfl⟩ := hy
  show some (compare (signed s m (i - min i j).toNat) (signed t n (j - min i j).toNat)) = _
  rw [← compare_scale _ _ (min i j + 1074).toNat, signed_val s m i _ (by omega) (by omega), signed_val t n j _ (by omega) (by omega)]

theorem rd_inf (s : Bool) : rd s 9218868437227405312 = .infinity s := rfl

theorem cmp_lt {x y : Int} (h : x < y) : compare x y = .lt := by simp [compare, compareOfLessAndEq, h]
theorem cmp_gt {x y : Int} (h : y < x) : compare x y = .gt := by
  simp only [compare, compareOfLessAndEq]; rw [if_neg (by omega), if_neg (by omega)]
theorem cmp_eq {x y : Int} (h : x = y) : compare x y = .eq := by
  subst h; simp [compare, compareOfLessAndEq]

/-- how two that are no NaNs stand -/
theorem order_rd (s t : Bool) (r q : Nat) (hr : r ≤ 9218868437227405312) (hq : q ≤ 9218868437227405312) : (rd s r).order (rd t q) = some (compare (sgn s (vl r)) (sgn t (vl q))) := by
  by_cases h1 : r < 9218868437227405312
  · by_cases h2 : q < 9218868437227405312
    · exact order_num (rd_num s r h1) (rd_num t q h2)
    · have e : q = 9218868437227405312 := by omega
      subst e
      obtain ⟨m, i, e, _, hv⟩ := rd_num s r h1
      rw [e, rd_inf]
      have hl := vl_lt h1
      show some (if t then Ordering.gt else Ordering.lt) = _
      cases t
      · rw [cmp_lt]; · rfl
        cases s <;> simp [sgn] <;> omega
      · rw [cmp_gt]; · rfl
        cases s <;> simp [sgn] <;> omega
  · have e : r = 9218868437227405312 := by omega
    subst e
    by_cases h2 : q < 9218868437227405312
    · obtain ⟨m, i, e, _, hv⟩ := rd_num t q h2
      rw [e, rd_inf]
      have hl := vl_lt h2
      show some (if s then Ordering.lt else Ordering.gt) = _
      cases s
      · rw [cmp_gt]; · rfl
        cases t <;> simp [sgn] <;> omega
      · rw [cmp_lt]; · rfl
        cases t <;> simp [sgn] <;> omega
    · have e : q = 9218868437227405312 := by omega
      subst e
      have hl := vl_pos (r := 9218868437227405312) (by omega)
      show some (compare t.toNat s.toNat) = _
      cases s <;> cases t
      · rw [cmp_eq rfl]; rfl
      · rw [cmp_gt]; · rfl
        simp only [sgn]; simp; omega
      · rw [cmp_lt]; · rfl
        simp only [sgn]; simp; omega
      · rw [cmp_eq rfl]; rfl
end Gn
end
