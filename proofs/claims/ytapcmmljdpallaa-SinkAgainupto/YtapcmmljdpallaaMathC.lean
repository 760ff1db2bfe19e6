import Derived.Test.YtapcmmljdpallaaMathB
namespace Gn
open Ieee

def ans (o : Option Datum) : Nat := (o.map double.write).getD 9221120237041090561
theorem add_ans (a b : Nat) : addW a b = ans ((double.read a).sum (double.read b)) := rfl
theorem mul_ans (a b : Nat) : mulW a b = ans ((double.read a).product (double.read b)) := rfl
theorem div_ans (a b : Nat) : divW a b = ans ((double.read a).quotient (double.fractionBits + 2) (double.read b)) := rfl

theorem rd_not (s : Bool) (r : Nat) : rd (!s) r = (rd s r).opposite := by
  unfold rd; split
  · rfl
  · split
    · rfl
    · split <;> rfl
theorem rd_nan (s : Bool) (r : Nat) (h : 9218868437227405312 < r) : rd s r = .nan s (r - 9218868437227405312) := by
  unfold rd; rw [if_neg (by omega), if_neg (by omega), if_neg (by omega)]
theorem rd_ok (s : Bool) (r : Nat) (h : ¬ 9218868437227405312 < r) : okD (rd s r) := by
  unfold rd; split
  · trivial
  · split
    · trivial
    · rw [if_pos (by omega)]; trivial
theorem read_NAN : double.read 9221120237041090561 = .nan false 2251799813685249 := by decide

def IsNan (d : Datum) : Prop := ∃ s t, d = .nan s t
theorem sum_nan_left {x : Datum} (y : Datum) (h : IsNan x) : x.sum y = none := by
  obtain ⟨s, t, rfl⟩ := h; cases y <;> rfl
theorem sum_nan_right (x : Datum) {y : Datum} (h : IsNan y) : x.sum y = none := by
  obtain ⟨s, t, rfl⟩ := h; cases x <;> rfl
theorem product_nan_left {x : Datum} (y : Datum) (h : IsNan x) : x.product y = none := by
  obtain ⟨s, t, rfl⟩ := h; cases y <;> rfl
theorem product_nan_right (x : Datum) {y : Datum} (h : IsNan y) : x.product y = none := by
  obtain ⟨s, t, rfl⟩ := h; cases x <;> rfl
theorem quotient_nan_left (k : Nat) {x : Datum} (y : Datum) (h : IsNan x) : x.quotient k y = none := by
  obtain ⟨s, t, rfl⟩ := h; cases y <;> rfl
theorem quotient_nan_right (k : Nat) (x : Datum) {y : Datum} (h : IsNan y) : x.quotient k y = none := by
  obtain ⟨s, t, rfl⟩ := h; cases x <;> rfl
theorem nan_NAN : IsNan (double.read 9221120237041090561) := ⟨_, _, read_NAN⟩

/-- a number handed in: a NaN (so is what Neg makes of it), or Neg turns the sign alone -/
theorem read_neg (a : Nat) (h : a < 18446744073709551616) :
    (IsNan (double.read a) ∧ IsNan (double.read (negW a)) ∧ negW a = 9221120237041090561 ∧ canonW a = 9221120237041090561) ∨ (okD (double.read a) ∧ double.read (negW a) = (double.read a).opposite ∧ canonW a = a ∧ negW (negW a) = a) := by
  obtain ⟨s, r, hr, rfl⟩ := wd_cases a h
  rw [neg_wd s r hr, read_wd s r hr, canon_wd s r hr]
  by_cases hn : 9218868437227405312 < r
  · rw [if_pos hn, if_pos hn]; exact .inl ⟨⟨_, _, rd_nan s r hn⟩, nan_NAN, rfl, rfl⟩
  · rw [if_neg hn, if_neg hn, read_wd _ r hr, rd_not, neg_wd _ r hr, if_neg hn, Bool.not_not]; exact .inr ⟨rd_ok s r hn, rfl, rfl, rfl⟩

theorem neg_NAN : negW 9221120237041090561 = 9221120237041090561 := by decide

theorem neg_write {d : Datum} (h : okD d) : negW (double.write d) = double.write d.opposite := by
  cases d with
  | number s m e =>
    have := rung_le m e
    show _ = double.write (.number (!s) m e)
    rw [write_number, write_number, neg_wd _ _ (by omega), if_neg (by omega)]
  | infinity s =>
    show _ = double.write (.infinity (!s))
    rw [write_inf, write_inf, neg_wd _ _ (by omega), if_neg (by omega)]
  | nan s t => exact h.elim

theorem opp_opp (d : Datum) : d.opposite.opposite = d := by cases d <;> simp [Datum.opposite]

theorem signed_not (s : Bool) (m k : Nat) : signed (!s) m k = - signed s m k := by
  cases s <;> simp [signed]

/-- a sum of turned numbers: turned, or a zero -/
theorem sum_opp (x y : Datum) : (x.opposite.sum y.opposite = (x.sum y).map Datum.opposite) ∨ ∃ s e, x.sum y = some (.number s 0 e) := by
  cases x <;> cases y <;> simp only [Datum.sum, Datum.opposite, Option.map_none, Option.map_some, true_or]
  · rename_i s m i t n j
    by_cases h : signed s m (i - min i j).toNat + signed t n (j - min i j).toNat = 0
    · right; exact ⟨s && t, min i j, by simp [h]⟩
    · left
      have h' : ¬ (- (signed s m (i - min i j).toNat) + - (signed t n (j - min i j).toNat) = 0) := by omega
      rw [signed_not, signed_not, if_neg h, if_neg h']
      generalize signed s m (i - min i j).toNat = u at *
      generalize signed t n (j - min i j).toNat = v at *
      have e1 : (-u + -v).natAbs = (u + v).natAbs := by omega
      have e2 : decide (-u + -v < 0) = !decide (u + v < 0) := by
        by_cases hh : u + v < 0
        · simp [hh]; omega
        · simp [hh]; omega
      rw [e1, e2]
  · rename_i s t
    left
    cases s <;> cases t <;> simp [Datum.opposite]

theorem ans_zero (s : Bool) (e : Int) : ans (some (.number s 0 e)) % 9223372036854775808 = 0 := by
  show double.write (.number s 0 e) % _ = 0
  rw [write_number]; simp [rung, wd]; cases s <;> simp

theorem neg_ans {o : Option Datum} (h : ∀ d, o = some d → okD d) : negW (ans o) = ans (o.map Datum.opposite) := by
  cases o with
  | none => exact neg_NAN
  | some d => exact neg_write (h d rfl)

/-- a difference the other way round -/
theorem sub_turn (a b : Nat) (ha : a < 18446744073709551616) (hb : b < 18446744073709551616) : subW a b % 9223372036854775808 = 0 ∨ subW b a = negW (subW a b) := by
  unfold subW
  rw [add_ans, add_ans]
  rcases read_neg a ha with ⟨na, na', _, _⟩ | ⟨oa, ea, _⟩
  · right; rw [sum_nan_left _ na, sum_nan_right _ na']; exact neg_NAN.symm
  · rcases read_neg b hb with ⟨nb, nb', _, _⟩ | ⟨ob, eb, _⟩
    · right; rw [sum_nan_left _ nb, sum_nan_right _ nb']; exact neg_NAN.symm
    · rw [ea, eb]
      rcases sum_opp (double.read a) (double.read b).opposite with h | ⟨s, e, h⟩
      · right
        rw [neg_ans (fun d hd => sum_ok hd), ← h, opp_opp, sum_comm]
      · left; rw [h]; exact ans_zero s e

/-- signs go through a sum -/
theorem add_neg (a b : Nat) (ha : a < 18446744073709551616) (hb : b < 18446744073709551616) : addW a b % 9223372036854775808 = 0 ∨ addW (negW a) (negW b) = negW (addW a b) := by
  rw [add_ans, add_ans]
  rcases read_neg a ha with ⟨na, na', _, _⟩ | ⟨oa, ea, _⟩
  · right; rw [sum_nan_left _ na, sum_nan_left _ na']; exact neg_NAN.symm
  · rcases read_neg b hb with ⟨nb, nb', _, _⟩ | ⟨ob, eb, _⟩
    · right; rw [sum_nan_right _ nb, sum_nan_right _ nb']; exact neg_NAN.symm
    · rw [ea, eb]
      rcases sum_opp (double.read a) (double.read b) with h | ⟨s, e, h⟩
      · right; rw [neg_ans (fun d hd => sum_ok hd), ← h]
      · left; rw [h]; exact ans_zero s e

theorem product_opp (x y : Datum) : x.opposite.product y = (x.product y).map Datum.opposite := by
  cases x <;> cases y <;> simp only [Datum.product, Datum.opposite, Option.map_none, Option.map_some, Bool.not_xor]
  · rename_i s m i t
    by_cases h : m = 0
    · simp [h]
    · simp [h, Datum.opposite]
  · rename_i t s m i
    by_cases h : m = 0
    · simp [h]
    · simp [h, Datum.opposite]
theorem quotient_opp (k : Nat) (x y : Datum) : x.opposite.quotient k y = (x.quotient k y).map Datum.opposite := by
  cases x <;> cases y <;> simp only [Datum.quotient, Datum.opposite, Option.map_none, Option.map_some, Bool.not_xor]
  rename_i s m i t n j
  by_cases h : n = 0
  · by_cases h' : m = 0
    · simp [h, h']
    · simp [h, h', Datum.opposite]
  · simp [h, Datum.opposite]

theorem mul_neg (a b : Nat) (ha : a < 18446744073709551616) : mulW (negW a) b = negW (mulW a b) := by
  rw [mul_ans, mul_ans]
  rcases read_neg a ha with ⟨na, na', _, _⟩ | ⟨oa, ea, _⟩
  · rw [product_nan_left _ na, product_nan_left _ na']; exact neg_NAN.symm
  · rw [ea, product_opp, neg_ans (fun d hd => product_ok hd)]
theorem div_neg (a b : Nat) (ha : a < 18446744073709551616) : divW (negW a) b = negW (divW a b) := by
  rw [div_ans, div_ans]
  rcases read_neg a ha with ⟨na, na', _, _⟩ | ⟨oa, ea, _⟩
  · rw [quotient_nan_left _ _ na, quotient_nan_left _ _ na']; exact neg_NAN.symm
  · rw [ea, quotient_opp, neg_ans (fun d hd => quotient_ok hd)]

theorem canon_lt (a : Nat) (h : a < 18446744073709551616) : canonW a < 18446744073709551616 := by unfold canonW; split <;> omega
theorem flip_lt (a : Nat) (h : a < 18446744073709551616) : flipW a < 18446744073709551616 := by unfold flipW; split <;> omega
theorem neg_lt (a : Nat) (h : a < 18446744073709551616) : negW a < 18446744073709551616 := canon_lt _ (flip_lt a h)
theorem abs_lt (a : Nat) : absW a < 18446744073709551616 := canon_lt _ (by omega)
theorem ans_lt {o : Option Datum} : ans o < 18446744073709551616 := by
  cases o with
  | none => decide
  | some d => exact double.write_lt d
theorem add_lt (a b : Nat) : addW a b < 18446744073709551616 := ans_lt
theorem mul_lt (a b : Nat) : mulW a b < 18446744073709551616 := ans_lt
theorem div_lt (a b : Nat) : divW a b < 18446744073709551616 := ans_lt

theorem neg_neg (a : Nat) (h : a < 18446744073709551616) : negW (negW a) = canonW a := by
  rcases read_neg a h with ⟨_, _, e, e'⟩ | ⟨_, _, e, e'⟩
  · rw [e, e', neg_NAN]
  · rw [e, e']
theorem mul_neg_neg (a b : Nat) (ha : a < 18446744073709551616) (hb : b < 18446744073709551616) : mulW (negW a) (negW b) = mulW a b := by
  rw [mul_neg a _ ha, mul_comm, mul_neg b _ hb, mul_comm, neg_neg _ (mul_lt _ _), canon_mul]
theorem abs_neg (a : Nat) (h : a < 18446744073709551616) : absW (negW a) = absW a := by
  obtain ⟨s, r, hr, rfl⟩ := wd_cases a h
  rw [neg_wd s r hr, abs_wd s r hr]
  by_cases hn : 9218868437227405312 < r
  · rw [if_pos hn, if_pos hn]; decide
  · rw [if_neg hn, if_neg hn, abs_wd _ r hr, if_neg hn]
theorem abs_abs (a : Nat) (h : a < 18446744073709551616) : absW (absW a) = absW a := by
  obtain ⟨s, r, hr, rfl⟩ := wd_cases a h
  rw [abs_wd s r hr]
  by_cases hn : 9218868437227405312 < r
  · rw [if_pos hn]; decide
  · rw [if_neg hn]; have := abs_wd false r hr; rw [if_neg hn] at this; exact this
end Gn
