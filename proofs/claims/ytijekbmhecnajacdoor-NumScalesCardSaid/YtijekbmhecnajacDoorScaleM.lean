import Derived.Test.YtijekbmhecnajacDoorOrdF
import Derived.Test.YtijekbmhecnajacDoorMathG
namespace Go.Proofs.YtijekbmhecnajacDoor
open Gn

/-- the word of 2^(p - 1023) -/
def pw (p : Nat) : Nat := p * 4503599627370496
theorem pw_rd (p : Nat) (h1 : 1 ≤ p) (h2 : p < 2047) : Ieee.double.read (pw p) = .number false 4503599627370496 ((p : Int) - 1075) := by
  unfold pw
  have hr := read_wd false (p * 4503599627370496) (by omega)
  rw [show wd false (p * 4503599627370496) = p * 4503599627370496 from rfl] at hr
  rw [hr]
  unfold rd
  rw [if_neg (by omega), if_pos (by omega), show p * 4503599627370496 % 4503599627370496 = 0 from Nat.mul_mod_left _ _, show p * 4503599627370496 / 4503599627370496 = p from Nat.mul_div_cancel _ (by decide)]
  rw [show (-1074 + ((p - 1 : Nat) : Int)) = (p : Int) - 1075 from by omega]
theorem log52 : (4503599627370496 : Nat).log2 = 52 := by decide
theorem mul_read {s t : Bool} {m n a b : Nat} {i j : Int} (ha : Ieee.double.read a = .number s m i) (hb : Ieee.double.read b = .number t n j) : mulW a b = wd (s ^^ t) (rung (m * n) (i + j)) := by
  rw [mul_ans, ha, hb]
  show Ieee.double.write (.number (s ^^ t) (m * n) (i + j)) = _
  rw [write_number]
theorem div_read {s t : Bool} {m n a b : Nat} {i j : Int} (hn : n ≠ 0) (ha : Ieee.double.read a = .number s m i) (hb : Ieee.double.read b = .number t n j) :
    divW a b = wd (s ^^ t) (rung (2 * (m <<< (54 + n.log2 - m.log2) / n) + (m <<< (54 + n.log2 - m.log2) % n != 0).toNat) (i - j - ((54 + n.log2 - m.log2 : Nat) : Int) - 1)) := by
  rw [div_ans, ha, hb]
  have e : Ieee.Datum.quotient (Ieee.double.fractionBits + 2) (.number s m i) (.number t n j) = some (.number (s ^^ t) (2 * (m <<< (54 + n.log2 - m.log2) / n) + (m <<< (54 + n.log2 - m.log2) % n != 0).toNat) (i - j - ((54 + n.log2 - m.log2 : Nat) : Int) - 1)) := by
    unfold Ieee.Datum.quotient
    simp only [hn, if_false]
    rfl
  rw [e]
  show Ieee.double.write (.number _ _ _) = _
  rw [write_number]
theorem two53 : (2 : Nat) ^ 53 = 9007199254740992 := by decide
theorem two52 : (2 : Nat) ^ 52 = 4503599627370496 := by decide
/-- by a power of two: the place moves -/
theorem mul_pw (s : Bool) (m : Nat) (i : Int) (p : Nat) (h1 : 1 ≤ p) (h2 : p < 2047) {a : Nat} (ha : Ieee.double.read a = .number s m i) : mulW a (pw p) = wd s (rung m (i + p - 1023)) := by
  rw [mul_read ha (pw_rd p h1 h2), Bool.xor_false]
  have := rung_shift m 52 (i + p - 1023)
  rw [two52] at this
  have e : i + (p : Int) - 1023 - ((52 : Nat) : Int) = i + ((p : Int) - 1075) := by omega
  rw [e] at this
  rw [this]
theorem div_pw (s : Bool) (m : Nat) (i : Int) (p : Nat) (h1 : 1 ≤ p) (h2 : p < 2047) (hm : m.log2 ≤ 52) {a : Nat} (ha : Ieee.double.read a = .number s m i) : divW a (pw p) = wd s (rung m (i + 1023 - p)) := by
  rw [div_read (by decide) ha (pw_rd p h1 h2), Bool.xor_false, log52, Nat.shiftLeft_eq]
  have hk : 54 + 52 - m.log2 = (54 - m.log2) + 52 := by omega
  rw [hk, Nat.pow_add, ← Nat.mul_assoc, two52, Nat.mul_div_cancel _ (by decide), Nat.mul_mod_left]
  have := rung_shift m (54 - m.log2 + 1) (i + 1023 - p)
  have e1 : 2 * (m * 2 ^ (54 - m.log2)) + ((0 : Nat) != 0).toNat = m * 2 ^ (54 - m.log2 + 1) := by
    rw [Nat.pow_succ]
    show 2 * (m * 2 ^ (54 - m.log2)) + 0 = _
    rw [Nat.add_zero, Nat.mul_comm 2, Nat.mul_assoc]
  have e2 : i - ((p : Int) - 1075) - ((54 - m.log2 + 52 : Nat) : Int) - 1 = i + 1023 - p - ((54 - m.log2 + 1 : Nat) : Int) := by omega
  rw [e1, e2, this]
theorem rd_log {s : Bool} {r : Nat} (h : r < 9218868437227405312) : ∃ m i, rd s r = .number s m i ∧ m.log2 ≤ 52 ∧ -1074 ≤ i ∧ m * 2 ^ (i + 1074).toNat = vl r := by
  obtain ⟨m, i, e, hi, hv⟩ := rd_num s r h
  refine ⟨m, i, e, ?_, hi, hv⟩
  unfold rd at e
  by_cases h1 : r < 4503599627370496
  · rw [if_pos h1] at e
    have := Ieee.Datum.number.inj e
    rw [← this.2.1]
    rcases Nat.eq_zero_or_pos r with k | k
    · subst k; decide
    · have := (Nat.log2_lt (n := r) (k := 52) (by omega)).2 (by omega); omega
  · rw [if_neg h1, if_pos h] at e
    have := Ieee.Datum.number.inj e
    rw [← this.2.1]
    have hm : r % 4503599627370496 < 4503599627370496 := Nat.mod_lt _ (by decide)
    have := (Nat.log2_lt (n := 4503599627370496 + r % 4503599627370496) (k := 53) (by omega)).2 (by rw [two53]; omega)
    omega
/-- to divide by a power of two is to multiply by its other one -/
theorem div_is_mul (a p q : Nat) (ha : a < 18446744073709551616) (h1 : 1 ≤ p) (h2 : p < 2046) (hq : p + q = 2046) : divW a (pw q) = mulW a (pw p) := by
  have g1 : 1 ≤ q := by omega
  have g2 : q < 2047 := by omega
  obtain ⟨s, r, hr, rfl⟩ := wd_cases a ha
  rcases Nat.lt_trichotomy r 9218868437227405312 with h | h | h
  · obtain ⟨m, i, e, hl, _, _⟩ := rd_log (s := s) h
    have e' : Ieee.double.read (wd s r) = .number s m i := by rw [read_wd s r hr, e]
    rw [div_pw s m i q g1 g2 hl e', mul_pw s m i p h1 (by omega) e']
    rw [show i + 1023 - (q : Int) = i + p - 1023 from by omega]
  · subst h
    rw [div_ans, mul_ans, read_wd s _ (by omega), rd_inf, pw_rd p h1 (by omega), pw_rd q g1 g2]
    show ans (some (.infinity (s ^^ false))) = ans (if (4503599627370496 : Nat) = 0 then none else some (.infinity (s ^^ false)))
    rw [if_neg (by decide)]
  · rw [div_ans, mul_ans, read_wd s r hr, rd_nan s r h, pw_rd p h1 (by omega), pw_rd q g1 g2]; rfl

theorem rung_norm (M : Nat) (h1 : 4503599627370496 ≤ M) (h2 : M < 9007199254740992) (E : Int) (hE : -1074 ≤ E) : rung M E = min ((E + 1074).toNat * 4503599627370496 + M) 9218868437227405312 := by
  have hl : M.log2 = 52 := log2_of (by rw [two52]; exact h1) (by rw [two53]; exact h2)
  rw [rung_U M E (by omega)]
  unfold rungU
  rw [hl]
  have e1 : max (E + ((52 : Nat) : Int) - 52) (-1074) = E := by omega
  rw [e1, show (E - E).toNat = 0 from by omega, Nat.pow_zero, Nat.mul_one, rhe_zero]
theorem rung_low (M : Nat) (h1 : 4503599627370496 ≤ M) (h2 : M < 9007199254740992) (E : Int) (hE : E < -1074) : rung M E ≤ 4503599627370496 := by
  have hl : M.log2 = 52 := log2_of (by rw [two52]; exact h1) (by rw [two53]; exact h2)
  rw [rung_U M E (by omega)]
  unfold rungU
  rw [hl]
  have e1 : max (E + ((52 : Nat) : Int) - 52) (-1074) = -1074 := by omega
  have e0 : ((-1074 : Int) + 1074).toNat = 0 := rfl
  rw [e1, e0, show (E - -1074).toNat = 0 from by omega, Nat.pow_zero, Nat.mul_one, Nat.zero_mul, Nat.zero_add]
  have h3 := rhe_lt_pow M (-1074 - E).toNat 52 (Nat.lt_of_lt_of_le (by rw [two53]; exact h2 : M < 2 ^ 53) (Nat.pow_le_pow_right (by omega) (by omega)))
  rw [two52] at h3
  omega
theorem read_norm (s : Bool) (x y M : Nat) (hM : M = 4503599627370496 + y) (hx : 1 ≤ x) (hy : y < 4503599627370496) (hr : x * 4503599627370496 + y < 9218868437227405312) : Ieee.double.read (wd s (x * 4503599627370496 + y)) = .number s M ((x : Int) - 1075) := by
  rw [read_wd s _ (by omega)]
  unfold rd
  rw [if_neg (by omega), if_pos hr, show (x * 4503599627370496 + y) % 4503599627370496 = y from by omega, show (x * 4503599627370496 + y) / 4503599627370496 = x from by omega, show (-1074 + ((x - 1 : Nat) : Int)) = (x : Int) - 1075 from by omega, hM]
/-- there and back -/
theorem scale_norm (s : Bool) (x y p q M : Nat) (hM : M = 4503599627370496 + y) (hx : 1 ≤ x) (hy : y < 4503599627370496) (hr : x * 4503599627370496 + y < 9218868437227405312) (h1 : 1 ≤ p) (h2 : p < 2046) (hq : p + q = 2046)
    (z : Nat) (hz : rung M ((x : Int) - 1075 + p - 1023) = z) (c2 : z < 9218868437227405312) (c3 : 4503599627370496 < z) : mulW (wd s z) (pw q) = wd s (x * 4503599627370496 + y) := by
  have m1 : 4503599627370496 ≤ M := by omega
  have m2 : M < 9007199254740992 := by omega
  have hE : -1074 ≤ (x : Int) - 1075 + p - 1023 := by
    rcases Int.lt_or_le ((x : Int) - 1075 + p - 1023) (-1074) with k | k
    · have := rung_low M m1 m2 _ k; omega
    · exact k
  rw [rung_norm M m1 m2 _ hE] at hz
  have t1 : ((x : Int) - 1075 + p - 1023 + 1074).toNat = x + p - 1024 := by omega
  rw [t1] at hz
  have hz2 : (x + p - 1024) * 4503599627370496 + M = z := by
    rcases Nat.le_total ((x + p - 1024) * 4503599627370496 + M) 9218868437227405312 with k | k
    · rw [Nat.min_eq_left k] at hz; exact hz
    · rw [Nat.min_eq_right k] at hz; omega
  have e : z = (x + p - 1023) * 4503599627370496 + y := by
    have : (x + p - 1023) * 4503599627370496 = (x + p - 1024) * 4503599627370496 + 4503599627370496 := by
      rw [show x + p - 1023 = (x + p - 1024) + 1 from by omega, Nat.succ_mul]
    rw [this, ← hz2, hM]; generalize (x + p - 1024) * 4503599627370496 = u; omega
  have hr2 := read_norm s (x + p - 1023) y M hM (by omega) hy (by rw [← e]; exact c2)
  rw [e, mul_pw s _ _ q (by omega) (by omega) hr2]
  have e2 : (((x + p - 1023 : Nat) : Int)) - 1075 + q - 1023 = (x : Int) - 1075 := by omega
  rw [e2, rung_norm M m1 m2 _ (by omega)]
  have t2 : ((x : Int) - 1075 + 1074).toNat = x - 1 := by omega
  have e3 : (x - 1) * 4503599627370496 + M = x * 4503599627370496 + y := by
    have : x * 4503599627370496 = (x - 1) * 4503599627370496 + 4503599627370496 := by
      conv => lhs; rw [show x = (x - 1) + 1 from by omega]
      rw [Nat.succ_mul]
    rw [this, hM]; generalize (x - 1) * 4503599627370496 = u; omega
  rw [t2, e3, Nat.min_eq_left (Nat.le_of_lt hr)]
theorem scale_back (a p q : Nat) (ha : a < 18446744073709551616) (h1 : 1 ≤ p) (h2 : p < 2046) (hq : p + q = 2046) (c1 : clsN a = 4) (c2 : clsN (mulW a (pw p)) = 4) (c3 : 4503599627370496 < absW (mulW a (pw p))) : mulW (mulW a (pw p)) (pw q) = a := by
  obtain ⟨s, r, hr, rfl⟩ := wd_cases a ha
  have hb : 4503599627370496 ≤ r ∧ r < 9218868437227405312 := by
    rw [cls_wd s r hr] at c1
    split at c1
    · omega
    · split at c1
      · omega
      · split at c1
        · omega
        · split at c1 <;> omega
  obtain ⟨x, y, hy, rfl⟩ : ∃ x y, y < 4503599627370496 ∧ r = x * 4503599627370496 + y := ⟨r / 4503599627370496, r % 4503599627370496, Nat.mod_lt _ (by decide), by omega⟩
  have hx : 1 ≤ x := by omega
  obtain ⟨M, hM⟩ : ∃ M, M = 4503599627370496 + y := ⟨_, rfl⟩
  have hm := mul_pw s _ _ p h1 (by omega) (read_norm s x y M hM hx hy hb.2)
  have hR := rung_le M ((x : Int) - 1075 + p - 1023)
  generalize hz : rung M ((x : Int) - 1075 + p - 1023) = z at *
  rw [hm] at c2 c3 ⊢
  rw [abs_wd s z (by omega), if_neg (by omega)] at c3
  rw [cls_wd s z (by omega)] at c2
  have hlt : z < 9218868437227405312 := by
    rcases Nat.lt_or_eq_of_le hR with k | k
    · exact k
    · rw [if_neg (by omega), if_pos k] at c2; omega
  exact scale_norm s x y p q M hM hx hy hb.2 h1 h2 hq z hz hlt c3
end Go.Proofs.YtijekbmhecnajacDoor
