import Derived.Test.YtlaaggpfmcehaaaMathC
namespace Gn
open Ieee

/-- the amount of a rung, in units of 2^-1074 -/
def vl (r : Nat) : Nat := if r < 4503599627370496 then r else (4503599627370496 + r % 4503599627370496) * 2 ^ (r / 4503599627370496 - 1)
def sgn (s : Bool) (v : Nat) : Int := if s then -(v : Int) else (v : Int)

theorem vl_lt {r q : Nat} (h : r < q) : vl r < vl q := by
  unfold vl
  by_cases h1 : q < 4503599627370496
  · rw [if_pos (by omega), if_pos h1]; exact h
  · rw [if_neg h1]
    have hp : ∀ k, 1 ≤ 2 ^ k := fun k => Nat.two_pow_pos k
    by_cases h2 : r < 4503599627370496
    · rw [if_pos h2]
      have := Nat.mul_le_mul_left (4503599627370496 + q % 4503599627370496) (hp (q / 4503599627370496 - 1))
      omega
    · rw [if_neg h2]
      by_cases h3 : r / 4503599627370496 = q / 4503599627370496
      · rw [h3]; exact Nat.mul_lt_mul_of_pos_right (by omega) (hp _)
      · have e : q / 4503599627370496 - 1 = (q / 4503599627370496 - 1 - (r / 4503599627370496)) + 1 + (r / 4503599627370496 - 1) := by omega
        rw [e, Nat.pow_add, ← Nat.mul_assoc]
        refine Nat.mul_lt_mul_of_pos_right ?_ (hp _)
        rw [Nat.pow_succ]
        have := hp (q / 4503599627370496 - 1 - (r / 4503599627370496))
        generalize 2 ^ (q / 4503599627370496 - 1 - (r / 4503599627370496)) = z at *
        have h4 : 4503599627370496 * 2 ≤ (4503599627370496 + q % 4503599627370496) * (z * 2) := by
          rw [← Nat.mul_assoc]
          refine Nat.mul_le_mul_right 2 ?_
          have := Nat.mul_le_mul_left (4503599627370496 + q % 4503599627370496) this
          omega
        have : r % 4503599627370496 < 4503599627370496 := Nat.mod_lt _ (by decide)
        omega
theorem vl_inj {r q : Nat} (h : vl r = vl q) : r = q := by
  rcases Nat.lt_trichotomy r q with h1 | h1 | h1
  · have := vl_lt h1; omega
  · exact h1
  · have := vl_lt h1; omega
theorem vl_lt_iff {r q : Nat} : vl r < vl q ↔ r < q := by
  constructor
  · intro h
    rcases Nat.lt_trichotomy r q with h1 | h1 | h1
    · exact h1
    · subst h1; omega
    · have := vl_lt h1; omega
  · exact vl_lt
theorem vl_zero : vl 0 = 0 := rfl
theorem vl_pos {r : Nat} (h : 0 < r) : 0 < vl r := by have := vl_lt h; rw [vl_zero] at this; exact this

theorem signed_scale (s : Bool) (m k c : Nat) : signed s m k * 2 ^ c = signed s m (k + c) := by
  unfold signed
  have e : ((m <<< (k + c) : Nat) : Int) = ((m <<< k : Nat) : Int) * 2 ^ c := by
    rw [Nat.shiftLeft_eq, Nat.shiftLeft_eq, Nat.pow_add, ← Nat.mul_assoc]; simp
  cases s
  · simp only [e]; rfl
  · simp only [e, if_true]; rw [Int.neg_mul]
theorem compare_scale (x y : Int) (c : Nat) : compare (x * 2 ^ c) (y * 2 ^ c) = compare x y := by
  have hp : (0 : Int) < 2 ^ c := Int.pow_pos (by decide)
  simp only [compare, compareOfLessAndEq]
  have e1 : (x * 2 ^ c < y * 2 ^ c) ↔ x < y := Int.mul_lt_mul_right hp
  have e2 : (x * 2 ^ c = y * 2 ^ c) ↔ x = y := by
    constructor
    · intro h; exact Int.eq_of_mul_eq_mul_right (by omega) h
    · intro h; rw [h]
  simp only [e1, e2]

/-- a number of the format with its amount -/
def Num (d : Datum) (s : Bool) (v : Nat) : Prop := ∃ m i, d = .number s m i ∧ -1074 ≤ i ∧ m * 2 ^ (i + 1074).toNat = v

theorem rd_num (s : Bool) (r : Nat) (h : r < 9218868437227405312) : Num (rd s r) s (vl r) := by
  unfold rd vl
  by_cases h1 : r < 4503599627370496
  · rw [if_pos h1, if_pos h1]; exact ⟨r, -1074, rfl, by omega, by simp⟩
  · rw [if_neg h1, if_pos h, if_neg h1]
    exact ⟨_, _, rfl, by omega, by congr 2; omega⟩

theorem signed_val (s : Bool) (m : Nat) (i b : Int) (hb : -1074 ≤ b) (hi : b ≤ i) : signed s m (i - b).toNat * 2 ^ (b + 1074).toNat = sgn s (m * 2 ^ (i + 1074).toNat) := by
  rw [signed_scale]
  have e : (i - b).toNat + (b + 1074).toNat = (i + 1074).toNat := by omega
  rw [e]; unfold signed sgn; rw [Nat.shiftLeft_eq]

theorem order_num {x y : Datum} {s t : Bool} {u v : Nat} (hx : Num x s u) (hy : Num y t v) : x.order y = some (compare (sgn s u) (sgn t v)) := by
  obtain ⟨m, i, rfl, hi, rfl⟩ := hx
  obtain ⟨n, j, rfl, hj, rfl⟩ := hy
  show some (compare (signed s m (i - min i j).toNat) (signed t n (j - min i j).toNat)) = _
  rw [← compare_scale _ _ (min i j + 1074).toNat, signed_val s m i _ (by omega) (by omega), signed_val t n j _ (by omega) (by omega)]

theorem rd_inf (s : Bool) : rd s 9218868437227405312 = .infinity s := rfl

theorem cmp_lt {x y : Int} (h : x < y) : compare x y = .lt := by simp [compare, compareOfLessAndEq, h]
theorem cmp_gt {x y : Int} (h : y < x) : compare x y = .gt := by
  simp only [compare, compareOfLessAndEq]; rw [if_neg (by omega), if_neg (by omega)]
theorem cmp_eq {x y : Int} (h : x = y) : compare x y = .eq := by
  subst h; simp [compare, compareOfLessAndEq]

/-- how two that are no NaNs stand -/
theorem order_rd (s t : Bool) (r q : Nat) (hr : r ≤ 9218868437227405312) (hq : q ≤ 9218868437227405312) : (rd s r).order (rd t q) = some (compare (sgn s (vl r)) (sgn t (vl q))) := by
  by_cases h1 : r < 9218868437227405312
  · by_cases h2 : q < 9218868437227405312
    · exact order_num (rd_num s r h1) (rd_num t q h2)
    · have e : q = 9218868437227405312 := by omega
      subst e
      obtain ⟨m, i, e, _, hv⟩ := rd_num s r h1
      rw [e, rd_inf]
      have hl := vl_lt h1
      show some (if t then Ordering.gt else Ordering.lt) = _
      cases t
      · rw [cmp_lt]; · rfl
        cases s <;> simp [sgn] <;> omega
      · rw [cmp_gt]; · rfl
        cases s <;> simp [sgn] <;> omega
  · have e : r = 9218868437227405312 := by omega
    subst e
    by_cases h2 : q < 9218868437227405312
    · obtain ⟨m, i, e, _, hv⟩ := rd_num t q h2
      rw [e, rd_inf]
      have hl := vl_lt h2
      show some (if s then Ordering.lt else Ordering.gt) = _
      cases s
      · rw [cmp_gt]; · rfl
        cases t <;> simp [sgn] <;> omega
      · rw [cmp_lt]; · rfl
        cases t <;> simp [sgn] <;> omega
    · have e : q = 9218868437227405312 := by omega
      subst e
      have hl := vl_pos (r := 9218868437227405312) (by omega)
      show some (compare t.toNat s.toNat) = _
      cases s <;> cases t
      · rw [cmp_eq rfl]; rfl
      · rw [cmp_gt]; · rfl
        simp only [sgn]; simp; omega
      · rw [cmp_lt]; · rfl
        simp only [sgn]; simp; omega
      · rw [cmp_eq rfl]; rfl
end Gn
