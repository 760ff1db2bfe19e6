import Derived.Test.YtpgehocadohkiaaGreatDoorMgAA
import Derived.Laws.FloatArith

section
namespace Gn
open Ieee

def flrD (a : Nat) : Nat := double.write ((double.read a).integral .down)
theorem integral_ok {d : Datum} {way : Toward} (h : okD d) : okD (d.integral way) := by cases d <;> exact h
theorem flr_canon (a : Nat) (h : okD (double.read a)) : canonW (flrD a) = flrD a := canon_write (integral_ok h)
theorem flr_lt (a : Nat) : flrD a < 18446744073709551616 := double.write_lt _

/-- what Int tests -/
def intOk (a : Nat) : Bool := (double.order a 14114281232179134464 == some .gt || double.order a 14114281232179134464 == some .eq) && double.order a 4890909195324358656 == some .lt && double.order a (flrD a) == some .eq

theorem cut_zero (s : Bool) (n d : Nat) : Toward.zero.cut s n d = n / 2 ^ d := by
  unfold Toward.cut
  simp only [Nat.one_shiftLeft, Bool.toNat_false, Nat.add_zero]
  by_cases h : d ≤ n.log2 + 2
  · rw [Nat.min_eq_left h]
  · have h1 : n < 2 ^ (n.log2 + 1) := Nat.lt_log2_self
    have h2 : 2 ^ (n.log2 + 1) ≤ 2 ^ (n.log2 + 2) := Nat.pow_le_pow_right (by omega) (by omega)
    have h3 : 2 ^ (n.log2 + 2) ≤ 2 ^ d := Nat.pow_le_pow_right (by omega) (by omega)
    rw [Nat.min_eq_right (by omega), Nat.div_eq_of_lt (by omega), Nat.div_eq_of_lt (by omega)]

/-- a number's amount, cut to a whole one -/
theorem whole_val (m : Nat) (i : Int) (hi : -1074 ≤ i) : (m <<< i.toNat) / 2 ^ (-i).toNat = m * 2 ^ (i + 1074).toNat / 2 ^ 1074 := by
  rw [Nat.shiftLeft_eq]
  by_cases h : 0 ≤ i
  · have e : (i + 1074).toNat = i.toNat + 1074 := by omega
    rw [e, Nat.pow_add, ← Nat.mul_assoc, Nat.mul_div_cancel _ (Nat.two_pow_pos 1074), show (-i).toNat = 0 from by omega]; simp
  · have e : 1074 = (-i).toNat + (i + 1074).toNat := by omega
    rw [show i.toNat = 0 from by omega, Nat.pow_zero, Nat.mul_one]
    conv => rhs; rw [show (2:Nat) ^ 1074 = 2 ^ ((-i).toNat + (i + 1074).toNat) from by rw [← e]]
    rw [Nat.pow_add, Nat.mul_div_mul_right _ _ (Nat.two_pow_pos _)]

theorem rd_low : double.read 14114281232179134464 = .number true 4503599627370496 11 := by decide
theorem rd_high : double.read 4890909195324358656 = .number false 4503599627370496 11 := by decide
theorem pow_63 (k : Nat) : 4503599627370496 * 2 ^ (11 + k) = 9223372036854775808 * 2 ^ k := by
  rw [Nat.pow_add, ← Nat.mul_assoc]
theorem num_low : Num (double.read 14114281232179134464) true (9223372036854775808 * 2 ^ 1074) := ⟨_, _, rd_low, by omega, by rw [show ((11 : Int) + 1074).toNat = 11 + 1074 from rfl]; exact pow_63 1074⟩
theorem num_high : Num (double.read 4890909195324358656) false (9223372036854775808 * 2 ^ 1074) := ⟨_, _, rd_high, by omega, by rw [show ((11 : Int) + 1074).toNat = 11 + 1074 from rfl]; exact pow_63 1074⟩

theorem beq_some {x y : Ordering} : (some x == some y) = decide (x = y) := by cases x <;> cases y <;> rfl

/-- what passes Int's first two tests is a number with an amount of at most 2^63 -/
theorem int_num {a : Nat} (ha : a < 18446744073709551616) (h1 : double.order a 14114281232179134464 = some .gt ∨ double.order a 14114281232179134464 = some .eq) (h2 : double.order a 4890909195324358656 = some .lt) :
    ∃ s r, r < 9218868437227405312 ∧ a = wd s r ∧ -(9223372036854775808 * 2 ^ 1074 : Nat) ≤ sgn s (vl r) ∧ sgn s (vl r) < (9223372036854775808 * 2 ^ 1074 : Nat) := by
  obtain ⟨s, r, hr, rfl⟩ := wd_cases a ha
  unfold Format.order at h1 h2
  rw [read_wd s r hr] at h1 h2
  by_cases hn : 9218868437227405312 < r
  · rw [rd_nan s r hn] at h2; cases h2
  · by_cases he : r = 9218868437227405312
    · subst he
      rw [rd_inf, rd_low] at h1; rw [rd_inf, rd_high] at h2
      cases s
      · cases h2
      · rcases h1 with h1 | h1 <;> cases h1
    · have hr' : r < 9218868437227405312 := by omega
      refine ⟨s, r, hr', rfl, ?_⟩
      rw [order_num (rd_num s r hr') num_low] at h1
      rw [order_num (rd_num s r hr') num_high] at h2
      generalize sgn s (vl r) = v at *
      have e1 : sgn true (9223372036854775808 * 2 ^ 1074) = -(9223372036854775808 * 2 ^ 1074 : Nat) := rfl
      have e2 : sgn false (9223372036854775808 * 2 ^ 1074) = (9223372036854775808 * 2 ^ 1074 : Nat) := rfl
      rw [e1] at h1; rw [e2] at h2
      generalize (9223372036854775808 * 2 ^ 1074 : Nat) = B at *
      refine ⟨?_, ?_⟩
      · rcases Int.lt_trichotomy v (-(B : Int)) with h | h | h
        · rw [cmp_lt h] at h1; rcases h1 with h1 | h1 <;> cases h1
        · omega
        · omega
      · rcases Int.lt_trichotomy v (B : Int) with h | h | h
        · exact h
        · rw [cmp_eq h] at h2; cases h2
        · rw [cmp_gt h] at h2; cases h2

theorem toInt_rd (s : Bool) (r : Nat) (h : r < 9218868437227405312) : (rd s r).toInt .zero = some (sgn s (vl r / 2 ^ 1074)) := by
  obtain ⟨m, i, e, hi, hv⟩ := rd_num s r h
  rw [e]
  show some (signed s (Toward.zero.cut s (m <<< i.toNat) (-i).toNat) 0) = _
  rw [cut_zero, whole_val m i hi, hv]; rfl

def intV (a : Nat) : Int := (Go.floatToIntVal .f64 a .i64).getD 0
theorem int_some {a : Nat} (ha : a < 18446744073709551616) (h1 : double.order a 14114281232179134464 = some .gt ∨ double.order a 14114281232179134464 = some .eq) (h2 : double.order a 4890909195324358656 = some .lt) : Go.floatToIntVal .f64 a .i64 = some (intV a) := by
  obtain ⟨s, r, hr, rfl, b1, b2⟩ := int_num ha h1 h2
  unfold intV
  have e : (Go.FloatKind.f64.decode (wd s r)).toInt .zero = some (sgn s (vl r / 2 ^ 1074)) := by
    show (double.read (wd s r)).toInt .zero = _
    rw [read_wd s r (by omega), toInt_rd s r hr]
  have hp : 0 < 2 ^ 1074 := Nat.two_pow_pos 1074
  generalize 2 ^ 1074 = U at *
  have hb : Go.IntKind.i64.min ≤ sgn s (vl r / U) ∧ sgn s (vl r / U) ≤ Go.IntKind.i64.max := by
    show (-9223372036854775808 : Int) ≤ _ ∧ _ ≤ (9223372036854775807 : Int)
    cases s
    · have b3 : vl r < 9223372036854775808 * U := by
        generalize 9223372036854775808 * U = B at b2 ⊢
        simp only [sgn] at b2; simp at b2; omega
      have := (Nat.div_lt_iff_lt_mul hp).2 b3
      generalize vl r / U = z at *
      simp only [sgn]; simp; omega
    · have b3 : vl r ≤ 9223372036854775808 * U := by
        generalize 9223372036854775808 * U = B at b1 ⊢
        simp only [sgn, if_true] at b1; omega
      have := Nat.div_le_div_right (c := U) b3
      rw [Nat.mul_div_cancel _ hp] at this
      generalize vl r / U = z at *
      simp only [sgn]; simp; omega
  have e' : Go.floatToIntVal .f64 (wd s r) .i64 = some (sgn s (vl r / U)) := by
    unfold Go.floatToIntVal; rw [e]; simp only; rw [if_pos hb]
  rw [e']; rfl
end Gn
end

section
namespace Gn
open Ieee

/-- 2^1074: a whole one in units -/
def UU : Nat := 2 ^ 1074
theorem UU_def : (2 : Nat) ^ 1074 = UU := by rw [UU]
theorem UU_pos : 0 < UU := by rw [← UU_def]; exact Nat.two_pow_pos 1074

theorem cut_down (s : Bool) (n d : Nat) : Toward.down.cut s n d = n / 2 ^ d + (s && n % 2 ^ d != 0).toNat := by
  unfold Toward.cut
  simp only [Nat.one_shiftLeft]
  by_cases h : d ≤ n.log2 + 2
  · rw [Nat.min_eq_left h]
  · have h1 : n < 2 ^ (n.log2 + 1) := Nat.lt_log2_self
    have h2 : 2 ^ (n.log2 + 1) ≤ 2 ^ (n.log2 + 2) := Nat.pow_le_pow_right (by omega) (by omega)
    have h3 : 2 ^ (n.log2 + 2) ≤ 2 ^ d := Nat.pow_le_pow_right (by omega) (by omega)
    rw [Nat.min_eq_right (by omega), Nat.div_eq_of_lt (by omega), Nat.div_eq_of_lt (by omega), Nat.mod_eq_of_lt (by omega), Nat.mod_eq_of_lt (by omega)]

theorem whole_rest (m : Nat) (i : Int) (hi : -1074 ≤ i) : ((m <<< i.toNat) % 2 ^ (-i).toNat != 0) = (m * 2 ^ (i + 1074).toNat % UU != 0) := by
  rw [Nat.shiftLeft_eq, ← UU_def]
  by_cases h : 0 ≤ i
  · have e : (i + 1074).toNat = i.toNat + 1074 := by omega
    rw [e, Nat.pow_add, ← Nat.mul_assoc, Nat.mul_mod_left, show (-i).toNat = 0 from by omega, Nat.pow_zero, Nat.mod_one]
  · have e : 1074 = (-i).toNat + (i + 1074).toNat := by omega
    rw [show i.toNat = 0 from by omega, Nat.pow_zero, Nat.mul_one]
    conv => rhs; rw [show (2:Nat) ^ 1074 = 2 ^ ((-i).toNat + (i + 1074).toNat) from by rw [← e]]
    rw [Nat.pow_add, Nat.mul_mod_mul_right]
    have hp := Nat.two_pow_pos (i + 1074).toNat
    generalize m % 2 ^ (-i).toNat = z
    generalize 2 ^ (i + 1074).toNat = p at *
    by_cases hz : z = 0
    · simp [hz]
    · have hzp : z * p ≠ 0 := Nat.mul_ne_zero hz (by omega)
      have e1 : (z != 0) = true := by rw [bne_iff_ne]; exact hz
      have e2 : (z * p != 0) = true := by rw [bne_iff_ne]; exact hzp
      rw [e1, e2]

/-- the amount of a floor, in whole ones -/
def flN (s : Bool) (v : Nat) : Nat := v / UU + (s && v % UU != 0).toNat
theorem flr_wd (s : Bool) (r : Nat) (h : r < 9218868437227405312) : flrD (wd s r) = wd s (rn (flN s (vl r) * UU)) := by
  obtain ⟨m, i, e, hi, hv⟩ := rd_num s r h
  unfold flrD
  rw [read_wd s r (by omega), e]
  show double.write (.number s (Toward.down.cut s (m <<< i.toNat) (-i).toNat) 0) = _
  rw [write_number, cut_down, whole_val m i hi, whole_rest m i hi, hv, UU_def, rung_rn _ 0 (by omega), show ((0 : Int) + 1074).toNat = 1074 from rfl, UU_def]
  rfl
theorem flr_inf (s : Bool) : flrD (wd s 9218868437227405312) = wd s 9218868437227405312 := by cases s <;> decide

theorem pow_le (a b : Nat) (h : a ≤ b) : 2 ^ a ≤ 2 ^ b := Nat.pow_le_pow_right (by omega) h
theorem pow_split (a b c : Nat) (h : c = a + b) : 2 ^ c = 2 ^ a * 2 ^ b := by rw [h, Nat.pow_add]
theorem big_inf {M : Nat} (h : M < 9007199254740992) : M * UU < vl 9218868437227405312 := by
  have e : vl 9218868437227405312 = 4503599627370496 * (2 ^ 972 * UU) := by
    unfold vl
    rw [if_neg (by decide), pow_split 972 1074 (9218868437227405312 / 4503599627370496 - 1) (by decide), show 4503599627370496 + 9218868437227405312 % 4503599627370496 = 4503599627370496 from by decide, UU_def]
  have h3 := pow_le 1 972 (by omega)
  rw [Nat.pow_one] at h3
  rw [e]
  clear e
  generalize (2 : Nat) ^ 972 = p at *
  rw [← Nat.mul_assoc]
  refine Nat.mul_lt_mul_of_pos_right ?_ UU_pos
  have := Nat.mul_le_mul_left 4503599627370496 h3
  omega
/-- whole amounts below 2^53 are told exactly -/
theorem rn_whole {M : Nat} (h : M < 9007199254740992) : vl (rn (M * UU)) = M * UU ∧ rn (M * UU) < 9218868437227405312 :=
  rn_rep (N := M * UU) M 1074 (by rw [UU_def]) h (big_inf h)

theorem mul_mod_UU (M k : Nat) : M * 2 ^ (1074 + k) % UU = 0 := by
  rw [Nat.pow_add, UU_def, Nat.mul_comm UU, ← Nat.mul_assoc]; exact Nat.mul_mod_left _ _
/-- what has a part behind the point is below 2^52 -/
theorem frac_lt {r : Nat} (h : vl r % UU ≠ 0) : vl r < 4503599627370496 * UU := by
  have he : ex r < 1074 := by
    rcases Nat.lt_or_ge (ex r) 1074 with k | k
    · exact k
    · exfalso; apply h
      rw [vl_mg, show ex r = 1074 + (ex r - 1074) from by omega]; exact mul_mod_UU _ _
  have h1 := mg_lt r
  have h2 := pow_le (ex r + 1) 1074 (by omega)
  rw [UU_def, Nat.pow_succ] at h2
  rw [vl_mg]
  have hp := Nat.two_pow_pos (ex r)
  calc mg r * 2 ^ ex r < 9007199254740992 * 2 ^ ex r := Nat.mul_lt_mul_of_pos_right h1 hp
    _ = 4503599627370496 * (2 ^ ex r * 2) := by rw [Nat.mul_comm (2 ^ ex r) 2, ← Nat.mul_assoc]
    _ ≤ 4503599627370496 * UU := Nat.mul_le_mul_left _ h2

theorem flN_whole (s : Bool) {v : Nat} (h : v % UU = 0) : flN s v * UU = v := by
  unfold flN
  rw [h]
  have := Nat.div_add_mod v UU
  rw [h, Nat.add_zero, Nat.mul_comm] at this
  simp [this]
theorem flN_frac (s : Bool) {v : Nat} (h : v < 4503599627370496 * UU) : flN s v ≤ 4503599627370496 := by
  unfold flN
  have h1 : v / UU < 4503599627370496 := (Nat.div_lt_iff_lt_mul UU_pos).2 h
  have : (s && v % UU != 0).toNat ≤ 1 := Bool.toNat_le _
  omega

theorem order_self (s : Bool) {r : Nat} (hr : r ≤ 9218868437227405312) : double.order (wd s r) (wd s r) = some .eq := by
  unfold Format.order
  rw [read_wd s r (by omega), order_rd s s r r hr hr, cmp_eq rfl]
theorem order_ne (s : Bool) {r q : Nat} (hr : r ≤ 9218868437227405312) (hq : q ≤ 9218868437227405312) (h : r ≠ q) : double.order (wd s r) (wd s q) ≠ some .eq := by
  unfold Format.order
  rw [read_wd s r (by omega), read_wd s q (by omega), order_rd s s r q hr hq]
  have hv : vl r ≠ vl q := fun k => h (vl_inj k)
  intro k
  have k := Option.some.inj k
  have hne : sgn s (vl r) ≠ sgn s (vl q) := by cases s <;> simp [sgn] <;> omega
  rcases Int.lt_or_gt_of_ne hne with a | a
  · rw [cmp_lt a] at k; cases k
  · rw [cmp_gt a] at k; cases k

/-- Int takes just the whole ones within its bounds -/
theorem intOk_wd (s : Bool) (r : Nat) (h : r < 9218868437227405312) : intOk (wd s r) = decide (vl r % UU = 0 ∧ -((9223372036854775808 * UU : Nat) : Int) ≤ sgn s (vl r) ∧ sgn s (vl r) < ((9223372036854775808 * UU : Nat) : Int)) := by
  have hl : double.order (wd s r) 14114281232179134464 = some (compare (sgn s (vl r)) (-((9223372036854775808 * UU : Nat) : Int))) := by
    unfold Format.order
    rw [read_wd s r (by omega), order_num (rd_num s r h) num_low, UU_def]; rfl
  have hh : double.order (wd s r) 4890909195324358656 = some (compare (sgn s (vl r)) ((9223372036854775808 * UU : Nat) : Int)) := by
    unfold Format.order
    rw [read_wd s r (by omega), order_num (rd_num s r h) num_high, UU_def]; rfl
  have hf : (double.order (wd s r) (flrD (wd s r)) == some .eq) = decide (vl r % UU = 0) := by
    rw [flr_wd s r h]
    by_cases hz : vl r % UU = 0
    · rw [flN_whole s hz, rn_vl h, order_self s (by omega)]; simp [hz]
    · have e := frac_lt hz
      obtain ⟨e1, e2⟩ := rn_whole (M := flN s (vl r)) (by have := flN_frac s e; omega)
      have hne : r ≠ rn (flN s (vl r) * UU) := by
        intro k
        rw [← k] at e1
        apply hz; rw [e1]; exact Nat.mul_mod_left _ _
      have := order_ne s (show r ≤ 9218868437227405312 by omega) (Nat.le_of_lt e2) hne
      simp only [hz, decide_false]
      simpa using this
  unfold intOk
  rw [hf, hl, hh]
  generalize sgn s (vl r) = v
  generalize ((9223372036854775808 * UU : Nat) : Int) = B
  rw [Bool.eq_iff_iff]
  simp only [Bool.and_eq_true, Bool.or_eq_true, beq_iff_eq, Option.some.injEq, decide_eq_true_eq]
  have c1 : (compare v (-B) = .gt ∨ compare v (-B) = .eq) ↔ -B ≤ v := by
    rcases Int.lt_trichotomy v (-B) with k | k | k
    · rw [cmp_lt k]; simp; omega
    · rw [cmp_eq k]; simp; omega
    · rw [cmp_gt k]; simp; omega
  have c2 : compare v B = .lt ↔ v < B := by
    rcases Int.lt_trichotomy v B with k | k | k
    · rw [cmp_lt k]; simp; omega
    · rw [cmp_eq k]; simp; omega
    · rw [cmp_gt k]; simp; omega
  rw [c1, c2]
  constructor
  · rintro ⟨⟨a, b⟩, c⟩; exact ⟨c, a, b⟩
  · rintro ⟨c, a, b⟩; exact ⟨⟨a, b⟩, c⟩
theorem intV_wd (s : Bool) (r : Nat) (h : intOk (wd s r) = true) (hr : r < 9218868437227405312) : intV (wd s r) = sgn s (vl r / UU) := by
  unfold intOk at h
  simp only [Bool.and_eq_true, Bool.or_eq_true, beq_iff_eq] at h
  have hs := int_some (wd_lt s r (by omega)) h.1.1 h.1.2
  have e : (Go.FloatKind.f64.decode (wd s r)).toInt .zero = some (sgn s (vl r / 2 ^ 1074)) := by
    show (double.read (wd s r)).toInt .zero = _
    rw [read_wd s r (by omega), toInt_rd s r hr]
  unfold Go.floatToIntVal at hs
  rw [e] at hs
  simp only at hs
  split at hs
  · rw [UU_def] at hs; exact (Option.some.inj hs).symm
  · cases hs
/-- Of -/
theorem of_wd (n : Int) (h : n.natAbs < 9007199254740992) : ∃ r, r < 9218868437227405312 ∧ vl r = n.natAbs * UU ∧ Go.floatOfInt .f64 n = wd (decide (n < 0)) r := by
  obtain ⟨e1, e2⟩ := rn_whole h
  refine ⟨_, e2, e1, ?_⟩
  show double.write (.number (n < 0) n.natAbs 0) = _
  rw [write_number, rung_rn _ 0 (by omega), show ((0 : Int) + 1074).toNat = 1074 from rfl, UU_def]
end Gn
end

section
namespace Gn
open Ieee

theorem pow_shift {m n A B : Nat} (h : m * 2 ^ A = n * 2 ^ B) (k : Int) (hA : 0 ≤ (A : Int) + k) (hB : 0 ≤ (B : Int) + k) : m * 2 ^ ((A : Int) + k).toNat = n * 2 ^ ((B : Int) + k).toNat := by
  rcases Int.le_total 0 k with hk | hk
  · obtain ⟨j, rfl⟩ := Int.eq_ofNat_of_zero_le hk
    rw [show ((A : Int) + (j : Int)).toNat = A + j by omega, show ((B : Int) + (j : Int)).toNat = B + j by omega, Nat.pow_add, Nat.pow_add, ← Nat.mul_assoc, ← Nat.mul_assoc, h]
  · obtain ⟨j, hj⟩ : ∃ j : Nat, k = -(j : Int) := ⟨k.natAbs, by omega⟩
    subst hj
    have ea : A = ((A : Int) + -(j : Int)).toNat + j := by omega
    have eb : B = ((B : Int) + -(j : Int)).toNat + j := by omega
    generalize ((A : Int) + -(j : Int)).toNat = A' at *
    generalize ((B : Int) + -(j : Int)).toNat = B' at *
    rw [ea, eb, Nat.pow_add, Nat.pow_add, ← Nat.mul_assoc, ← Nat.mul_assoc] at h
    exact Nat.eq_of_mul_eq_mul_right (Nat.two_pow_pos j) h

theorem wd_f (r : Nat) : wd false r = r := by simp [wd]
/-- a product of two finite amounts -/
theorem mul_some (r q : Nat) (hr : r < 9218868437227405312) (hq : q < 9218868437227405312) :
    double.mul r q = some (rung (vl r * vl q) (-2148)) := by
  have h := mul_fin false false r q hr hq
  rw [wd_f, wd_f, Bool.false_xor, wd_f] at h
  obtain ⟨m, i, k1, _, _⟩ := rd_num false r hr
  obtain ⟨n, j, k2, _, _⟩ := rd_num false q hq
  have h1 := read_wd false r (by omega)
  have h2 := read_wd false q (by omega)
  rw [wd_f] at h1 h2
  generalize rung (vl r * vl q) (-2148) = R at *
  unfold mulW at h
  unfold Format.mul at h ⊢
  rw [h1, h2, k1, k2] at h ⊢
  simp only [Datum.product, Option.map_some, Option.getD_some] at h ⊢
  rw [h]

theorem UU_pow : ∃ c : Nat, c = 1074 ∧ UU = 2 ^ c := ⟨1074, rfl, UU_def.symm⟩
/-- a whole amount as a word: its parts -/
theorem parts {n x : Nat} (hn : 1 ≤ n) (hv : vl x = n * UU) : 4503599627370496 ≤ x ∧ (4503599627370496 + x % 4503599627370496) * 2 ^ (x / 4503599627370496 - 1) = n * UU := by
  have hb : 4503599627370496 ≤ x := by
    rcases Nat.lt_or_ge x 4503599627370496 with h | h
    · unfold vl at hv
      rw [if_pos h] at hv
      have h1 : 1 * UU ≤ n * UU := Nat.mul_le_mul_right _ hn
      have h2 : (4503599627370496 : Nat) ≤ UU := by
        obtain ⟨c, hc, hU⟩ := UU_pow
        rw [hU]; exact pow_le 52 c (by omega)
      omega
    · exact h
  refine ⟨hb, ?_⟩
  unfold vl at hv
  rw [if_neg (by omega)] at hv
  exact hv
/-- the place of its highest bit -/
theorem place_is {n x : Nat} (hn : 1 ≤ n) (hv : vl x = n * UU) : x / 4503599627370496 = n.log2 + 1023 := by
  obtain ⟨hb, hp⟩ := parts hn hv
  have hm : x % 4503599627370496 < 4503599627370496 := Nat.mod_lt _ (by decide)
  have hl : (4503599627370496 + x % 4503599627370496).log2 = 52 := log2_of (by show 4503599627370496 ≤ _; omega) (by show _ < 9007199254740992; omega)
  obtain ⟨c, hc, hU⟩ := UU_pow
  rw [hU] at hp
  have h1 := congrArg Nat.log2 hp
  rw [log2_mul_pow _ _ (by omega), log2_mul_pow _ _ (by omega), hl] at h1
  omega
/-- moved by k places -/
theorem moved {n x : Nat} (hn : 1 ≤ n) (hv : vl x = n * UU) (k : Int) (y : Nat) (hy : (y : Int) = x + k * 4503599627370496) (h1 : 1 ≤ (x / 4503599627370496 : Nat) + k) (hk : -1074 ≤ k) : vl y = n * 2 ^ (k + 1074).toNat := by
  obtain ⟨hb, hp⟩ := parts hn hv
  have hd : (y / 4503599627370496 : Nat) = ((x / 4503599627370496 : Nat) : Int) + k := by omega
  have hm : y % 4503599627370496 = x % 4503599627370496 := by omega
  obtain ⟨c, hc, hU⟩ := UU_pow
  rw [hU] at hp
  have hp2 := pow_shift hp k (by omega) (by omega)
  unfold vl
  rw [if_neg (by omega), hm, show y / 4503599627370496 - 1 = (((x / 4503599627370496 - 1 : Nat) : Int) + k).toNat by omega, hp2, show ((c : Int) + k).toNat = (k + 1074).toNat by omega]
theorem one_v : vl 4607182418800017408 = UU := by
  obtain ⟨c, hc, hU⟩ := UU_pow
  obtain ⟨d, hd⟩ : ∃ d : Nat, d = 4607182418800017408 / 4503599627370496 - 1 := ⟨_, rfl⟩
  have hd2 : d = 1022 := by omega
  unfold vl
  rw [if_neg (by decide), ← hd, hU, show c = 52 + d by omega, Nat.pow_add]
theorem small_v : vl 4368491638549381120 * 2 ^ 53 = UU := by
  obtain ⟨c, hc, hU⟩ := UU_pow
  obtain ⟨d, hd⟩ : ∃ d : Nat, d = 4368491638549381120 / 4503599627370496 - 1 := ⟨_, rfl⟩
  have hd2 : d = 969 := by omega
  unfold vl
  rw [if_neg (by decide), ← hd, hU, show c = 52 + d + 53 by omega, Nat.pow_add, Nat.pow_add]
theorem rung_UU (N : Nat) : rung (N * UU) (-2148) = rn N := by
  obtain ⟨c, hc, hU⟩ := UU_pow
  have := rung_shift N c (-1074)
  rw [show ((-1074 : Int) - (c : Nat)) = -2148 by omega] at this
  rw [hU, this]; rfl
/-- the product by 1 -/
theorem mul_one {y : Nat} (h : y < 9218868437227405312) : double.mul 4607182418800017408 y = some y := by
  rw [mul_some _ _ (by decide) h, one_v, Nat.mul_comm, rung_UU, rn_vl h]
/-- the product by 2^-53 of a number that lies 53 places too high -/
theorem mul_small {y N : Nat} (h : y < 9218868437227405312) (hv : vl y = N * 2 ^ 53) : double.mul 4368491638549381120 y = some (rn N) := by
  rw [mul_some _ _ (by decide) h, hv, Nat.mul_left_comm, small_v, rung_UU]
end Gn
end
