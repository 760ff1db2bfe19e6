import Derived.Test.YtdklpgkheakapaaGreatDoorWalkC
import Derived.Test.YtdklpgkheakapaaGreatDoorMathD
namespace Go.Proofs.YtdklpgkheakapaaGreatDoor

theorem canon_id {s : Bool} {r : Nat} (h : r ≤ 9218868437227405312) : Gn.canonW (Gn.wd s r) = Gn.wd s r := by
  rw [Gn.canon_wd s r (by omega), if_neg (by omega)]
theorem rank_f {r : Nat} (h : r ≤ 9218868437227405312) : rankW (Gn.wd false r) = r + 9223372036854775808 := by
  unfold rankW; rw [canon_id h, show Gn.wd false r = r from rfl, if_pos (by omega)]
theorem rank_t {r : Nat} (h : r ≤ 9218868437227405312) : rankW (Gn.wd true r) = 9223372036854775807 - r := by
  unfold rankW; rw [canon_id h, show Gn.wd true r = 9223372036854775808 + r from rfl, if_neg (by omega)]; omega
theorem cls_wd (s : Bool) (r : Nat) (h : r < 9223372036854775808) : clsN (Gn.wd s r) = if 9218868437227405312 < r then 0 else if r = 9218868437227405312 then 1 else if r = 0 then 2 else if r < 4503599627370496 then 3 else 4 := by
  unfold clsN; rw [Gn.wd_mod s r h]
theorem zero_wd (s : Bool) (r : Nat) (h : r ≤ 9218868437227405312) : clsN (Gn.wd s r) = 2 ↔ r = 0 := by
  rw [cls_wd s r (by omega), if_neg (by omega)]
  by_cases h1 : r = 9218868437227405312
  · rw [if_pos h1]; omega
  · rw [if_neg h1]
    by_cases h2 : r = 0
    · rw [if_pos h2]; omega
    · rw [if_neg h2]; split <;> omega
theorem num_wd (a : Nat) (ha : a < 18446744073709551616) (h : clsN a ≠ 0) : ∃ s r, r ≤ 9218868437227405312 ∧ a = Gn.wd s r := by
  obtain ⟨s, r, hr, rfl⟩ := Gn.wd_cases a ha
  refine ⟨s, r, ?_, rfl⟩
  rcases Nat.lt_or_ge 9218868437227405312 r with h1 | h1
  · exfalso; apply h; rw [cls_wd s r hr, if_pos h1]
  · exact h1

theorem order_wd (s t : Bool) (r q : Nat) (hr : r ≤ 9218868437227405312) (hq : q ≤ 9218868437227405312) : Ieee.double.order (Gn.wd s r) (Gn.wd t q) = some (compare (Gn.sgn s (Gn.vl r)) (Gn.sgn t (Gn.vl q))) := by
  unfold Ieee.Format.order
  rw [Gn.read_wd s r (by omega), Gn.read_wd t q (by omega), Gn.order_rd s t r q hr hq]
theorem cmp_is_lt (x y : Int) : (some (compare x y) == some Ordering.lt) = decide (x < y) := by
  rcases Int.lt_trichotomy x y with h | h | h
  · rw [Gn.cmp_lt h]; simp [h]
  · rw [Gn.cmp_eq h]; subst h; simp
  · rw [Gn.cmp_gt h]; simp; omega
theorem cmp_is_eq (x y : Int) : (some (compare x y) == some Ordering.eq) = decide (x = y) := by
  rcases Int.lt_trichotomy x y with h | h | h
  · rw [Gn.cmp_lt h]; simp; omega
  · rw [Gn.cmp_eq h]; subst h; simp
  · rw [Gn.cmp_gt h]; simp; omega

def bothZ (a b : Nat) : Bool := clsN a == 2 && clsN b == 2
/-- Less and Equal, by the rank -/
theorem lt_rank (a b : Nat) (ha : a < 18446744073709551616) (hb : b < 18446744073709551616) (na : clsN a ≠ 0) (nb : clsN b ≠ 0) :
    ltW a b = (decide (rankW a < rankW b) && !bothZ a b) ∧ eqW a b = (decide (rankW a = rankW b) || bothZ a b) := by
  obtain ⟨s, r, hr, rfl⟩ := num_wd a ha na
  obtain ⟨t, q, hq, rfl⟩ := num_wd b hb nb
  have hz : bothZ (Gn.wd s r) (Gn.wd t q) = decide (r = 0 ∧ q = 0) := by
    unfold bothZ
    rw [Bool.eq_iff_iff]
    simp [zero_wd s r hr, zero_wd t q hq]
  unfold ltW eqW
  rw [order_wd s t r q hr hq, cmp_is_lt, cmp_is_eq, hz]
  have h0 := @Gn.vl_lt_iff r q
  have h1 := @Gn.vl_lt_iff q r
  have h2 : Gn.vl r = 0 ↔ r = 0 := ⟨fun h => by rcases Nat.eq_zero_or_pos r with e | e; exact e; have := Gn.vl_pos e; omega, fun h => by subst h; rfl⟩
  have h3 : Gn.vl q = 0 ↔ q = 0 := ⟨fun h => by rcases Nat.eq_zero_or_pos q with e | e; exact e; have := Gn.vl_pos e; omega, fun h => by subst h; rfl⟩
  have h4 : Gn.vl r = Gn.vl q ↔ r = q := ⟨Gn.vl_inj, fun h => by rw [h]⟩
  generalize Gn.vl r = u at *
  generalize Gn.vl q = v at *
  cases s <;> cases t <;> simp only [rank_f hr, rank_f hq, rank_t hr, rank_t hq, Gn.sgn]
  · constructor <;> (rw [Bool.eq_iff_iff]; simp; omega)
  · constructor <;> (rw [Bool.eq_iff_iff]; simp; omega)
  · constructor <;> (rw [Bool.eq_iff_iff]; simp; omega)
  · constructor <;> (rw [Bool.eq_iff_iff]; simp; omega)
theorem lt_nan (a b : Nat) (ha : a < 18446744073709551616) (hb : b < 18446744073709551616) (h : clsN a = 0 ∨ clsN b = 0) : ltW a b = false ∧ eqW a b = false := by
  have hn : Ieee.double.order a b = none := by
    unfold Ieee.Format.order
    rcases h with h | h
    · obtain ⟨s, r, hr, rfl⟩ := Gn.wd_cases a ha
      have := (cls_nan _).1 h
      rw [Gn.wd_mod s r hr] at this
      rw [Gn.read_wd s r hr, Gn.rd_nan s r this]
      cases Ieee.double.read b <;> rfl
    · obtain ⟨s, r, hr, rfl⟩ := Gn.wd_cases b hb
      have := (cls_nan _).1 h
      rw [Gn.wd_mod s r hr] at this
      rw [Gn.read_wd s r hr, Gn.rd_nan s r this]
      cases Ieee.double.read a <;> rfl
  unfold ltW eqW
  rw [hn]; exact ⟨rfl, rfl⟩
end Go.Proofs.YtdklpgkheakapaaGreatDoor
