import Derived.Test.YthjngodkpldpfaaGreatDoorMgAB
import Derived.Laws.FloatArith

section
namespace Gn
open Ieee

def flrD (a : Nat) : Nat := double.write ((double.read a).integral .down)
theorem integral_ok {d : Datum} {way : Toward} (h : okD d) : okD (d.integral way) := by cases d <;> exact h
theorem flr_canon (a : Nat) (h : okD (double.read a)) : canonW (flrD a) = flrD a := canon_write (integral_ok h)
theorem flr_lt (a : Nat) : flrD a < 18446744073709551616 := double.write_lt _

/-- what Int tests -/
def intOk (a : Nat) : Bool := (double.order a 14114281232179134464 == some .gt || double.order a 14114281232179134464 == some .eq) && double.order a 4890909195324358656 == some .lt && double.order a (flrD a) == some .eq

theorem cut_zero (s : Bool) (n d : Nat) : Toward.zero.cut s n d = n / 2 ^ d := by
  unfold Toward.cut
  simp only [Nat.one_shiftLeft, Bool.toNat_false, Nat.add_zero]
  by_cases h : d ≤ n.log2 + 2
  · rw [Nat.min_eq_left h]
  · have h1 : n < 2 ^ (n.log2 + 1) := Nat.lt_log2_self
    have h2 : 2 ^ (n.log2 + 1) ≤ 2 ^ (n.log2 + 2) := Nat.pow_le_pow_right (by omega) (by omega)
    have h3 : 2 ^ (n.log2 + 2) ≤ 2 ^ d := Nat.pow_le_pow_right (by omega) (by omega)
    rw [Nat.min_eq_right (by omega), Nat.div_eq_of_lt (by omega), Nat.div_eq_of_lt (by omega)]

/-- a number's amount, cut to a whole one -/
theorem whole_val (m : Nat) (i : Int) (hi : -1074 ≤ i) : (m <<< i.toNat) / 2 ^ (-i).toNat = m * 2 ^ (i + 1074).toNat / 2 ^ 1074 := by
  rw [Nat.shiftLeft_eq]
  by_cases h : 0 ≤ i
  · have e : (i + 1074).toNat = i.toNat + 1074 := by omega
    rw [e, Nat.pow_add, ← Nat.mul_assoc, Nat.mul_div_cancel _ (Nat.two_pow_pos 1074), show (-i).toNat = 0 from by omega]; simp
  · have e : 1074 = (-i).toNat + (i + 1074).toNat := by omega
    rw [show i.toNat = 0 from by omega, Nat.pow_zero, Nat.mul_one]
    conv => rhs; rw [show (2:Nat) ^ 1074 = 2 ^ ((-i).toNat + (i + 1074).toNat) from by rw [← e]]
    rw [Nat.pow_add, Nat.mul_div_mul_right _ _ (Nat.two_pow_pos _)]

theorem rd_low : double.read 14114281232179134464 = .number true 4503599627370496 11 := by decide
theorem rd_high : double.read 4890909195324358656 = .number false 4503599627370496 11 := by decide
theorem pow_63 (k : Nat) : 4503599627370496 * 2 ^ (11 + k) = 9223372036854775808 * 2 ^ k := by
  rw [Nat.pow_add, ← Nat.mul_assoc]
theorem num_low : Num (double.read 14114281232179134464) true (9223372036854775808 * 2 ^ 1074) := ⟨_, _, rd_low, by omega, by rw [show ((11 : Int) + 1074).toNat = 11 + 1074 from rfl]; exact pow_63 1074⟩
theorem num_high : Num (double.read 4890909195324358656) false (9223372036854775808 * 2 ^ 1074) := ⟨_, _, rd_high, by omega, by rw [show ((11 : Int) + 1074).toNat = 11 + 1074 from rfl]; exact pow_63 1074⟩

theorem beq_some {x y : Ordering} : (some x == some y) = decide (x = y) := by cases x <;> cases y <;> rfl

/-- what passes Int's first two tests is a number with an amount of at most 2^63 -/
theorem int_num {a : Nat} (ha : a < 18446744073709551616) (h1 : double.order a 14114281232179134464 = some .gt ∨ double.order a 14114281232179134464 = some .eq) (h2 : double.order a 4890909195324358656 = some .lt) :
    ∃ s r, r < 9218868437227405312 ∧ a = wd s r ∧ -(9223372036854775808 * 2 ^ 1074 : Nat) ≤ sgn s (vl r) ∧ sgn s (vl r) < (9223372036854775808 * 2 ^ 1074 : Nat) := by
  obtain ⟨s, r, hr, rfl⟩ := wd_cases a ha
  unfold Format.order at h1 h2
  rw [read_wd s r hr] at h1 h2
  by_cases hn : 9218868437227405312 < r
  · rw [rd_nan s r hn] at h2; cases h2
  · by_cases he : r = 9218868437227405312
    · subst he
      rw [rd_inf, rd_low] at h1; rw [rd_inf, rd_high] at h2
      cases s
      · cases h2
      · rcases h1 with h1 | h1 <;> cases h1
    · have hr' : r < 9218868437227405312 := by omega
      refine ⟨s, r, hr', rfl, ?_⟩
      rw [order_num (rd_num s r hr') num_low] at h1
      rw [order_num (rd_num s r hr') num_high] at h2
      generalize sgn s (vl r) = v at *
      have e1 : sgn true (9223372036854775808 * 2 ^ 1074) = -(9223372036854775808 * 2 ^ 1074 : Nat) := rfl
      have e2 : sgn false (9223372036854775808 * 2 ^ 1074) = (9223372036854775808 * 2 ^ 1074 : Nat) := rfl
      rw [e1] at h1; rw [e2] at h2
      generalize (9223372036854775808 * 2 ^ 1074 : Nat) = B at *
      refine ⟨?_, ?_⟩
      · rcases Int.lt_trichotomy v (-(B : Int)) with h | h | h
        · rw [cmp_lt h] at h1; rcases h1 with h1 | h1 <;> cases h1
        · omega
        · omega
      · rcases Int.lt_trichotomy v (B : Int) with h | h | h
        · exact h
        · rw [cmp_eq h] at h2; cases h2
        · rw [cmp_gt h] at h2; cases h2

theorem toInt_rd (s : Bool) (r : Nat) (h : r < 9218868437227405312) : (rd s r).toInt .zero = some (sgn s (vl r / 2 ^ 1074)) := by
  obtain ⟨m, i, e, hi, hv⟩ := rd_num s r h
  rw [e]
  show some (signed s (Toward.zero.cut s (m <<< i.toNat) (-i).toNat) 0) = _
  rw [cut_zero, whole_val m i hi, hv]; rfl

def intV (a : Nat) : Int := (Go.floatToIntVal .f64 a .i64).getD 0
theorem int_some {a : Nat} (ha : a < 18446744073709551616) (h1 : double.order a 14114281232179134464 = some .gt ∨ double.order a 14114281232179134464 = some .eq) (h2 : double.order a 4890909195324358656 = some .lt) : Go.floatToIntVal .f64 a .i64 = some (intV a) := by
  obtain ⟨s, r, hr, rfl, b1, b2⟩ := int_num ha h1 h2
  unfold intV
  have e : (Go.FloatKind.f64.decode (wd s r)).toInt .zero = some (sgn s (vl r / 2 ^ 1074)) := by
    show (double.read (wd s r)).toInt .zero = _
    rw [read_wd s r (by omega), toInt_rd s r hr]
  have hp : 0 < 2 ^ 1074 := Nat.two_pow_pos 1074
  generalize 2 ^ 1074 = U at *
  have hb : Go.IntKind.i64.min ≤ sgn s (vl r / U) ∧ sgn s (vl r / U) ≤ Go.IntKind.i64.max := by
    show (-9223372036854775808 : Int) ≤ _ ∧ _ ≤ (9223372036854775807 : Int)
    cases s
    · have b3 : vl r < 9223372036854775808 * U := by
        generalize 9223372036854775808 * U = B at b2 ⊢
        simp only [sgn] at b2; simp at b2; omega
      have := (Nat.div_lt_iff_lt_mul hp).2 b3
      generalize vl r / U = z at *
      simp only [sgn]; simp; omega
    · have b3 : vl r ≤ 9223372036854775808 * U := by
        generalize 9223372036854775808 * U = B at b1 ⊢
        simp only [sgn, if_true] at b1; omega
      have := Nat.div_le_div_right (c := U) b3
      rw [Nat.mul_div_cancel _ hp] at this
      generalize vl r / U = z at *
      simp only [sgn]; simp; omega
  have e' : Go.floatToIntVal .f64 (wd s r) .i64 = some (sgn s (vl r / U)) := by
    unfold Go.floatToIntVal; rw [e]; simp only; rw [if_pos hb]
  rw [e']; rfl
end Gn
end

section
namespace Gn
open Ieee

/-- 2^1074: a whole one in units -/
def UU : Nat := 2 ^ 1074
theorem UU_def : (2 : Nat) ^ 1074 = UU := by rw [UU]
theorem UU_pos : 0 < UU := by rw [← UU_def]; exact Nat.two_pow_pos 1074

theorem cut_down (s : Bool) (n d : Nat) : Toward.down.cut s n d = n / 2 ^ d + (s && n % 2 ^ d != 0).toNat := by
  unfold Toward.cut
  simp only [Nat.one_shiftLeft]
  by_cases h : d ≤ n.log2 + 2
  · rw [Nat.min_eq_left h]
  · have h1 : n < 2 ^ (n.log2 + 1) := Nat.lt_log2_self
    have h2 : 2 ^ (n.log2 + 1) ≤ 2 ^ (n.log2 + 2) := Nat.pow_le_pow_right (by omega) (by omega)
    have h3 : 2 ^ (n.log2 + 2) ≤ 2 ^ d := Nat.pow_le_pow_right (by omega) (by omega)
    rw [Nat.min_eq_right (by omega), Nat.div_eq_of_lt (by omega), Nat.div_eq_of_lt (by omega), Nat.mod_eq_of_lt (by omega), Nat.mod_eq_of_lt (by omega)]

theorem whole_rest (m : Nat) (i : Int) (hi : -1074 ≤ i) : ((m <<< i.toNat) % 2 ^ (-i).toNat != 0) = (m * 2 ^ (i + 1074).toNat % UU != 0) := by
  rw [Nat.shiftLeft_eq, ← UU_def]
  by_cases h : 0 ≤ i
  · have e : (i + 1074).toNat = i.toNat + 1074 := by omega
    rw [e, Nat.pow_add, ← Nat.mul_assoc, Nat.mul_mod_left, show (-i).toNat = 0 from by omega, Nat.pow_zero, Nat.mod_one]
  · have e : 1074 = (-i).toNat + (i + 1074).toNat := by omega
    rw [show i.toNat = 0 from by omega, Nat.pow_zero, Nat.mul_one]
    conv => rhs; rw [show (2:Nat) ^ 1074 = 2 ^ ((-i).toNat + (i + 1074).toNat) from by rw [← e]]
    rw [Nat.pow_add, Nat.mul_mod_mul_right]
    have hp := Nat.two_pow_pos (i + 1074).toNat
    generalize m % 2 ^ (-i).toNat = z
    generalize 2 ^ (i + 1074).toNat = p at *
    by_cases hz : z = 0
    · simp [hz]
    · have hzp : z * p ≠ 0 := Nat.mul_ne_zero hz (by omega)
      have e1 : (z != 0) = true := by rw [bne_iff_ne]; exact hz
      have e2 : (z * p != 0) = true := by rw [bne_iff_ne]; exact hzp
      rw [e1, e2]

/-- the amount of a floor, in whole ones -/
def flN (s : Bool) (v : Nat) : Nat := v / UU + (s && v % UU != 0).toNat
theorem flr_wd (s : Bool) (r : Nat) (h : r < 9218868437227405312) : flrD (wd s r) = wd s (rn (flN s (vl r) * UU)) := by
  obtain ⟨m, i, e, hi, hv⟩ := rd_num s r h
  unfold flrD
  rw [read_wd s r (by omega), e]
  show double.write (.number s (Toward.down.cut s (m <<< i.toNat) (-i).toNat) 0) = _
  rw [write_number, cut_down, whole_val m i hi, whole_rest m i hi, hv, UU_def, rung_rn _ 0 (by omega), show ((0 : Int) + 1074).toNat = 1074 from rfl, UU_def]
  rfl
theorem flr_inf (s : Bool) : flrD (wd s 9218868437227405312) = wd s 9218868437227405312 := by cases s <;> decide

theorem pow_le (a b : Nat) (h : a ≤ b) : 2 ^ a ≤ 2 ^ b := Nat.pow_le_pow_right (by omega) h
theorem pow_split (a b c : Nat) (h : c = a + b) : 2 ^ c = 2 ^ a * 2 ^ b := by rw [h, Nat.pow_add]
theorem big_inf {M : Nat} (h : M < 9007199254740992) : M * UU < vl 9218868437227405312 := by
  have e : vl 9218868437227405312 = 4503599627370496 * (2 ^ 972 * UU) := by
    unfold vl
    rw [if_neg (by decide), pow_split 972 1074 (9218868437227405312 / 4503599627370496 - 1) (by decide), show 4503599627370496 + 9218868437227405312 % 4503599627370496 = 4503599627370496 from by decide, UU_def]
  have h3 := pow_le 1 972 (by omega)
  rw [Nat.pow_one] at h3
  rw [e]
  clear e
  generalize (2 : Nat) ^ 972 = p at *
  rw [← Nat.mul_assoc]
  refine Nat.mul_lt_mul_of_pos_right ?_ UU_pos
  have := Nat.mul_le_mul_left 4503599627370496 h3
  omega
/-- whole amounts below 2^53 are told exactly -/
theorem rn_whole {M : Nat} (h : M < 9007199254740992) : vl (rn (M * UU)) = M * UU ∧ rn (M * UU) < 9218868437227405312 :=
  rn_rep (N := M * UU) M 1074 (by rw [UU_def]) h (big_inf h)

theorem mul_mod_UU (M k : Nat) : M * 2 ^ (1074 + k) % UU = 0 := by
  rw [Nat.pow_add, UU_def, Nat.mul_comm UU, ← Nat.mul_assoc]; exact Nat.mul_mod_left _ _
/-- what has a part behind the point is below 2^52 -/
theorem frac_lt {r : Nat} (h : vl r % UU ≠ 0) : vl r < 4503599627370496 * UU := by
  have he : ex r < 1074 := by
    rcases Nat.lt_or_ge (ex r) 1074 with k | k
    · exact k
    · exfalso; apply h
      rw [vl_mg, show ex r = 1074 + (ex r - 1074) from by omega]; exact mul_mod_UU _ _
  have h1 := mg_lt r
  have h2 := pow_le (ex r + 1) 1074 (by omega)
  rw [UU_def, Nat.pow_succ] at h2
  rw [vl_mg]
  have hp := Nat.two_pow_pos (ex r)
  calc mg r * 2 ^ ex r < 9007199254740992 * 2 ^ ex r := Nat.mul_lt_mul_of_pos_right h1 hp
    _ = 4503599627370496 * (2 ^ ex r * 2) := by rw [Nat.mul_comm (2 ^ ex r) 2, ← Nat.mul_assoc]
    _ ≤ 4503599627370496 * UU := Nat.mul_le_mul_left _ h2

theorem flN_whole (s : Bool) {v : Nat} (h : v % UU = 0) : flN s v * UU = v := by
  unfold flN
  rw [h]
  have := Nat.div_add_mod v UU
  rw [h, Nat.add_zero, Nat.mul_comm] at this
  simp [this]
theorem flN_frac (s : Bool) {v : Nat} (h : v < 4503599627370496 * UU) : flN s v ≤ 4503599627370496 := by
  unfold flN
  have h1 : v / UU < 4503599627370496 := (Nat.div_lt_iff_lt_mul UU_pos).2 h
  have : (s && v % UU != 0).toNat ≤ 1 := Bool.toNat_le _
  omega

theorem order_self (s : Bool) {r : Nat} (hr : r ≤ 9218868437227405312) : double.order (wd s r) (wd s r) = some .eq := by
  unfold Format.order
  rw [read_wd s r (by omega), order_rd s s r r hr hr, cmp_eq rfl]
theorem order_ne (s : Bool) {r q : Nat} (hr : r ≤ 9218868437227405312) (hq : q ≤ 9218868437227405312) (h : r ≠ q) : double.order (wd s r) (wd s q) ≠ some .eq := by
  unfold Format.order
  rw [read_wd s r (by omega), read_wd s q (by omega), order_rd s s r q hr hq]
  have hv : vl r ≠ vl q := fun k => h (vl_inj k)
  intro k
  have k := Option.some.inj k
  have hne : sgn s (vl r) ≠ sgn s (vl q) := by cases s <;> simp [sgn] <;> omega
  rcases Int.lt_or_gt_of_ne hne with a | a
  · rw [cmp_lt a] at k; cases k
  · rw [cmp_gt a] at k; cases k

/-- Int takes just the whole ones within its bounds -/
theorem intOk_wd (s : Bool) (r : Nat) (h : r < 9218868437227405312) : intOk (wd s r) = decide (vl r % UU = 0 ∧ -((9223372036854775808 * UU : Nat) : Int) ≤ sgn s (vl r) ∧ sgn s (vl r) < ((9223372036854775808 * UU : Nat) : Int)) := by
  have hl : double.order (wd s r) 14114281232179134464 = some (compare (sgn s (vl r)) (-((9223372036854775808 * UU : Nat) : Int))) := by
    unfold Format.order
    rw [read_wd s r (by omega), order_num (rd_num s r h) num_low, UU_def]; rfl
  have hh : double.order (wd s r) 4890909195324358656 = some (compare (sgn s (vl r)) ((9223372036854775808 * UU : Nat) : Int)) := by
    unfold Format.order
    rw [read_wd s r (by omega), order_num (rd_num s r h) num_high, UU_def]; rfl
  have hf : (double.order (wd s r) (flrD (wd s r)) == some .eq) = decide (vl r % UU = 0) := by
    rw [flr_wd s r h]
    by_cases hz : vl r % UU = 0
    · rw [flN_whole s hz, rn_vl h, order_self s (by omega)]; simp [hz]
    · have e := frac_lt hz
      obtain ⟨e1, e2⟩ := rn_whole (M := flN s (vl r)) (by have := flN_frac s e; omega)
      have hne : r ≠ rn (flN s (vl r) * UU) := by
        intro k
        rw [← k] at e1
        apply hz; rw [e1]; exact Nat.mul_mod_left _ _
      have := order_ne s (show r ≤ 9218868437227405312 by omega) (Nat.le_of_lt e2) hne
      simp only [hz, decide_false]
      simpa using this
  unfold intOk
  rw [hf, hl, hh]
  generalize sgn s (vl r) = v
  generalize ((9223372036854775808 * UU : Nat) : Int) = B
  rw [Bool.eq_iff_iff]
  simp only [Bool.and_eq_true, Bool.or_eq_true, beq_iff_eq, Option.some.injEq, decide_eq_true_eq]
  have c1 : (compare v (-B) = .gt ∨ compare v (-B) = .eq) ↔ -B ≤ v := by
    rcases Int.lt_trichotomy v (-B) with k | k | k
    · rw [cmp_lt k]; simp; omega
    · rw [cmp_eq k]; simp; omega
    · rw [cmp_gt k]; simp; omega
  have c2 : compare v B = .lt ↔ v < B := by
    rcases Int.lt_trichotomy v B with k | k | k
    · rw [cmp_lt k]; simp; omega
    · rw [cmp_eq k]; simp; omega
    · rw [cmp_gt k]; simp; omega
  rw [c1, c2]
  constructor
  · rintro ⟨⟨a, b⟩, c⟩; exact ⟨c, a, b⟩
  · rintro ⟨c, a, b⟩; exact ⟨⟨a, b⟩, c⟩
theorem intV_wd (s : Bool) (r : Nat) (h : intOk (wd s r) = true) (hr : r < 9218868437227405312) : intV (wd s r) = sgn s (vl r / UU) := by
  unfold intOk at h
  simp only [Bool.and_eq_true, Bool.or_eq_true, beq_iff_eq] at h
  have hs := int_some (wd_lt s r (by omega)) h.1.1 h.1.2
  have e : (Go.FloatKind.f64.decode (wd s r)).toInt .zero = some (sgn s (vl r / 2 ^ 1074)) := by
    show (double.read (wd s r)).toInt .zero = _
    rw [read_wd s r (by omega), toInt_rd s r hr]
  unfold Go.floatToIntVal at hs
  rw [e] at hs
  simp only at hs
  split at hs
  · rw [UU_def] at hs; exact (Option.some.inj hs).symm
  · cases hs
/-- Of -/
theorem of_wd (n : Int) (h : n.natAbs < 9007199254740992) : ∃ r, r < 9218868437227405312 ∧ vl r = n.natAbs * UU ∧ Go.floatOfInt .f64 n = wd (decide (n < 0)) r := by
  obtain ⟨e1, e2⟩ := rn_whole h
  refine ⟨_, e2, e1, ?_⟩
  show double.write (.number (n < 0) n.natAbs 0) = _
  rw [write_number, rung_rn _ 0 (by omega), show ((0 : Int) + 1074).toNat = 1074 from rfl, UU_def]
end Gn
end

section
namespace Gn
open Ieee

/-- the distance of two whole numbers -/
def dist (x y : Nat) : Nat := (x - y) + (y - x)
theorem rhe_err (N k : Nat) : dist N (rhe N k * 2 ^ k) ≤ N % 2 ^ k ∧ dist N (rhe N k * 2 ^ k) ≤ 2 ^ k - N % 2 ^ k ∧ 2 * dist N (rhe N k * 2 ^ k) ≤ 2 ^ k ∧ (N % 2 ^ k = 0 → rhe N k * 2 ^ k = N) := by
  have hp := Nat.two_pow_pos k
  have e := Nat.div_add_mod N (2 ^ k)
  have hr := Nat.mod_lt N hp
  unfold rhe dist
  generalize 2 ^ k = D at *
  generalize N / D = q at *
  generalize N % D = r at *
  rw [Nat.mul_comm] at e
  by_cases c : D < 2 * r ∨ (D = 2 * r ∧ q % 2 = 1)
  · rw [if_pos c, Nat.add_mul, Nat.one_mul]
    generalize q * D = x at *
    omega
  · rw [if_neg c, Nat.add_zero]
    generalize q * D = x at *
    omega
theorem mult_dist (N k c : Nat) : dist N (rhe N k * 2 ^ k) ≤ dist N (c * 2 ^ k) := by
  obtain ⟨h1, h2, _, _⟩ := rhe_err N k
  have hp := Nat.two_pow_pos k
  have e := Nat.div_add_mod N (2 ^ k)
  have hr := Nat.mod_lt N hp
  generalize hx : dist N (rhe N k * 2 ^ k) = x at *
  unfold dist
  generalize 2 ^ k = D at *
  rw [Nat.mul_comm] at e
  rcases Nat.lt_or_ge (N / D) c with h | h
  · have := Nat.mul_le_mul_right D (Nat.succ_le_of_lt h)
    rw [Nat.succ_mul] at this
    generalize N / D * D = y at *
    generalize c * D = z at *
    generalize N % D = r at *
    omega
  · have := Nat.mul_le_mul_right D h
    generalize N / D * D = y at *
    generalize c * D = z at *
    generalize N % D = r at *
    omega

theorem vl_norm (k j : Nat) (hj : j < 4503599627370496) : vl ((k + 1) * 4503599627370496 + j) = (4503599627370496 + j) * 2 ^ k := by
  unfold vl
  rw [if_neg (by omega), show ((k + 1) * 4503599627370496 + j) / 4503599627370496 - 1 = k from by omega, show ((k + 1) * 4503599627370496 + j) % 4503599627370496 = j from by omega]
theorem small_inf {M : Nat} (h : M < 9007199254740992) : M < vl 9218868437227405312 := by
  have h1 := big_inf h
  have := Nat.mul_le_mul_left M UU_pos
  omega
/-- what rounding gives -/
theorem vl_rn (N : Nat) (h0 : N ≠ 0) (hI : rn N < 9218868437227405312) : vl (rn N) = rhe N (N.log2 - 52) * 2 ^ (N.log2 - 52) ∧ (rn N % 4503599627370496 ≠ 0 → 4503599627370496 ≤ rn N → ex (rn N) = N.log2 - 52) := by
  have hlt : N < 2 ^ (N.log2 + 1) := Nat.lt_log2_self
  rcases Nat.lt_or_ge 52 N.log2 with h | h
  · have hU := rung_U N (-1074) h0
    have hk1 : 4503599627370496 ≤ rhe N (N.log2 - 52) := by
      have := kept_ge N (-1074) (-1074 + N.log2 - 52) h0 rfl
      rw [show (-1074 - (-1074 + (N.log2 : Int) - 52)).toNat = 0 from by omega, show (-1074 + (N.log2 : Int) - 52 - -1074).toNat = N.log2 - 52 from by omega, Nat.pow_zero, Nat.mul_one] at this
      exact this
    have hk2 : rhe N (N.log2 - 52) ≤ 9007199254740992 := by
      have := kept_le N (-1074) (-1074 + N.log2 - 52) (by omega)
      rw [show (-1074 - (-1074 + (N.log2 : Int) - 52)).toNat = 0 from by omega, show (-1074 + (N.log2 : Int) - 52 - -1074).toNat = N.log2 - 52 from by omega, Nat.pow_zero, Nat.mul_one] at this
      exact this
    have hV : rungU N (-1074) = (N.log2 - 52) * 4503599627370496 + rhe N (N.log2 - 52) := by
      unfold rungU
      have e1 : max (-1074 + (N.log2 : Int) - 52) (-1074) = -1074 + (N.log2 : Int) - 52 := by omega
      rw [e1, show (-1074 + (N.log2 : Int) - 52 + 1074).toNat = N.log2 - 52 from by omega, show (-1074 - (-1074 + (N.log2 : Int) - 52)).toNat = 0 from by omega, show (-1074 + (N.log2 : Int) - 52 - -1074).toNat = N.log2 - 52 from by omega, Nat.pow_zero, Nat.mul_one]
    have hr : rn N = (N.log2 - 52) * 4503599627370496 + rhe N (N.log2 - 52) := by
      unfold rn at hI ⊢
      rw [hU, hV] at hI ⊢
      rcases Nat.le_total ((N.log2 - 52) * 4503599627370496 + rhe N (N.log2 - 52)) 9218868437227405312 with k | k
      · exact Nat.min_eq_left k
      · rw [Nat.min_eq_right k] at hI; omega
    rw [hr]
    generalize N.log2 - 52 = k at *
    generalize rhe N k = K at *
    rcases Nat.lt_or_eq_of_le hk2 with c | c
    · have e : k * 4503599627370496 + K = (k + 1) * 4503599627370496 + (K - 4503599627370496) := by
        rw [Nat.succ_mul]; generalize k * 4503599627370496 = z; omega
      rw [e, vl_norm k _ (by omega), show 4503599627370496 + (K - 4503599627370496) = K from by omega]
      refine ⟨rfl, fun _ _ => ?_⟩
      unfold ex; omega
    · subst c
      have e : k * 4503599627370496 + 9007199254740992 = (k + 1 + 1) * 4503599627370496 + 0 := by
        omega
      rw [e, vl_norm (k + 1) 0 (by decide), Nat.add_zero]
      refine ⟨?_, fun h1 _ => absurd (by omega) h1⟩
      rw [Nat.pow_succ, Nat.mul_comm (2 ^ k)]
      exact (Nat.mul_assoc 4503599627370496 2 (2 ^ k)).symm
  · have hs : N < 9007199254740992 := by
      refine Nat.lt_of_lt_of_le hlt ?_
      have := pow_le (N.log2 + 1) 53 (by omega)
      exact Nat.le_trans this (by decide)
    have hk : N.log2 - 52 = 0 := by omega
    obtain ⟨e1, e2⟩ := rn_rep (N := N) N 0 (by rw [Nat.pow_zero, Nat.mul_one]) hs (small_inf hs)
    rw [hk, rhe_zero, Nat.pow_zero, Nat.mul_one, e1]
    refine ⟨rfl, fun _ _ => ?_⟩
    have : rn N < 9007199254740992 := by
      rcases Nat.lt_or_ge (rn N) 9007199254740992 with k | k
      · exact k
      · have : vl 9007199254740992 ≤ vl (rn N) := by
          rcases Nat.lt_or_eq_of_le k with j | j
          · exact Nat.le_of_lt (vl_lt j)
          · rw [← j]; exact Nat.le_refl _
        have e : vl 9007199254740992 = 9007199254740992 := by decide
        omega
    unfold ex; omega

/-- no amount is nearer -/
theorem nearest_amount (N p : Nat) (h0 : N ≠ 0) (hI : rn N < 9218868437227405312) : dist N (vl (rn N)) ≤ dist N (vl p) := by
  rw [(vl_rn N h0 hI).1]
  by_cases hk : N.log2 - 52 ≤ ex p
  · rw [vl_mg p, show ex p = (ex p - (N.log2 - 52)) + (N.log2 - 52) from by omega, Nat.pow_add, ← Nat.mul_assoc]
    exact mult_dist N _ _
  · have h1 := mult_dist N (N.log2 - 52) 4503599627370496
    refine Nat.le_trans h1 ?_
    have h2 : vl p ≤ 4503599627370496 * 2 ^ (N.log2 - 52) := by
      rw [vl_mg p, show N.log2 - 52 = (N.log2 - 52 - 1) + 1 from by omega, Nat.pow_succ, Nat.mul_comm (2 ^ _) 2, ← Nat.mul_assoc]
      refine Nat.mul_le_mul (by have := mg_lt p; omega) (pow_le _ _ (by omega))
    have h3 : 4503599627370496 * 2 ^ (N.log2 - 52) ≤ N := by
      have h4 : 2 ^ N.log2 ≤ N := Nat.log2_self_le h0
      rw [show N.log2 = 52 + (N.log2 - 52) from by omega, Nat.pow_add] at h4
      have e52 : (2 : Nat) ^ 52 = 4503599627370496 := by decide
      rw [e52] at h4
      rw [show N.log2 - 52 = 52 + (N.log2 - 52) - 52 from by omega]
      rw [show 52 + (N.log2 - 52) - 52 = N.log2 - 52 from by omega]
      exact h4
    unfold dist
    generalize 4503599627370496 * 2 ^ (N.log2 - 52) = z at *
    omega
end Gn
end
