import Derived.Test.YteokcgclmgleiaaDoorMathH
namespace Gn
open Ieee

theorem pow_shift {m n A B : Nat} (h : m * 2 ^ A = n * 2 ^ B) (k : Int) (hA : 0 ≤ (A : Int) + k) (hB : 0 ≤ (B : Int) + k) : m * 2 ^ ((A : Int) + k).toNat = n * 2 ^ ((B : Int) + k).toNat := by
  rcases Int.le_total 0 k with hk | hk
  · obtain ⟨j, rfl⟩ := Int.eq_ofNat_of_zero_le hk
    rw [show ((A : Int) + (j : Int)).toNat = A + j by omega, show ((B : Int) + (j : Int)).toNat = B + j by omega, Nat.pow_add, Nat.pow_add, ← Nat.mul_assoc, ← Nat.mul_assoc, h]
  · obtain ⟨j, hj⟩ : ∃ j : Nat, k = -(j : Int) := ⟨k.natAbs, by omega⟩
    subst hj
    have ea : A = ((A : Int) + -(j : Int)).toNat + j := by omega
    have eb : B = ((B : Int) + -(j : Int)).toNat + j := by omega
    generalize ((A : Int) + -(j : Int)).toNat = A' at *
    generalize ((B : Int) + -(j : Int)).toNat = B' at *
    rw [ea, eb, Nat.pow_add, Nat.pow_add, ← Nat.mul_assoc, ← Nat.mul_assoc] at h
    exact Nat.eq_of_mul_eq_mul_right (Nat.two_pow_pos j) h

theorem wd_f (r : Nat) : wd false r = r := by simp [wd]
/-- a product of two finite amounts -/
theorem mul_some (r q : Nat) (hr : r < 9218868437227405312) (hq : q < 9218868437227405312) :
    double.mul r q = some (rung (vl r * vl q) (-2148)) := by
  have h := mul_fin false false r q hr hq
  rw [wd_f, wd_f, Bool.false_xor, wd_f] at h
  obtain ⟨m, i, k1, _, _⟩ := rd_num false r hr
  obtain ⟨n, j, k2, _, _⟩ := rd_num false q hq
  have h1 := read_wd false r (by omega)
  have h2 := read_wd false q (by omega)
  rw [wd_f] at h1 h2
  generalize rung (vl r * vl q) (-2148) = R at *
  unfold mulW at h
  unfold Format.mul at h ⊢
  rw [h1, h2, k1, k2] at h ⊢
  simp only [Datum.product, Option.map_some, Option.getD_some] at h ⊢
  rw [h]

theorem UU_pow : ∃ c : Nat, c = 1074 ∧ UU = 2 ^ c := ⟨1074, rfl, UU_def.symm⟩
/-- a whole amount as a word: its parts -/
theorem parts {n x : Nat} (hn : 1 ≤ n) (hv : vl x = n * UU) : 4503599627370496 ≤ x ∧ (4503599627370496 + x % 4503599627370496) * 2 ^ (x / 4503599627370496 - 1) = n * UU := by
  have hb : 4503599627370496 ≤ x := by
    rcases Nat.lt_or_ge x 4503599627370496 with h | h
    · unfold vl at hv
      rw [if_pos h] at hv
      have h1 : 1 * UU ≤ n * UU := Nat.mul_le_mul_right _ hn
      have h2 : (4503599627370496 : Nat) ≤ UU := by
        obtain ⟨c, hc, hU⟩ := UU_pow
        rw [hU]; exact pow_le 52 c (by omega)
      omega
    · exact h
  refine ⟨hb, ?_⟩
  unfold vl at hv
  rw [if_neg (by omega)] at hv
  exact hv
/-- the place of its highest bit -/
theorem place_is {n x : Nat} (hn : 1 ≤ n) (hv : vl x = n * UU) : x / 4503599627370496 = n.log2 + 1023 := by
  obtain ⟨hb, hp⟩ := parts hn hv
  have hm : x % 4503599627370496 < 4503599627370496 := Nat.mod_lt _ (by decide)
  have hl : (4503599627370496 + x % 4503599627370496).log2 = 52 := log2_of (by show 4503599627370496 ≤ _; omega) (by show _ < 9007199254740992; omega)
  obtain ⟨c, hc, hU⟩ := UU_pow
  rw [hU] at hp
  have h1 := congrArg Nat.log2 hp
  rw [log2_mul_pow _ _ (by omega), log2_mul_pow _ _ (by omega), hl] at h1
  omega
/-- moved by k places -/
theorem moved {n x : Nat} (hn : 1 ≤ n) (hv : vl x = n * UU) (k : Int) (y : Nat) (hy : (y : Int) = x + k * 4503599627370496) (h1 : 1 ≤ (x / 4503599627370496 : Nat) + k) (hk : -1074 ≤ k) : vl y = n * 2 ^ (k + 1074).toNat := by
  obtain ⟨hb, hp⟩ := parts hn hv
  have hd : (y / 4503599627370496 : Nat) = ((x / 4503599627370496 : Nat) : Int) + k := by omega
  have hm : y % 4503599627370496 = x % 4503599627370496 := by omega
  obtain ⟨c, hc, hU⟩ := UU_pow
  rw [hU] at hp
  have hp2 := pow_shift hp k (by omega) (by omega)
  unfold vl
  rw [if_neg (by omega), hm, show y / 4503599627370496 - 1 = (((x / 4503599627370496 - 1 : Nat) : Int) + k).toNat by omega, hp2, show ((c : Int) + k).toNat = (k + 1074).toNat by omega]
theorem one_v : vl 4607182418800017408 = UU := by
  obtain ⟨c, hc, hU⟩ := UU_pow
  obtain ⟨d, hd⟩ : ∃ d : Nat, d = 4607182418800017408 / 4503599627370496 - 1 := ⟨_, rfl⟩
  have hd2 : d = 1022 := by omega
  unfold vl
  rw [if_neg (by decide), ← hd, hU, show c = 52 + d by omega, Nat.pow_add]
theorem small_v : vl 4368491638549381120 * 2 ^ 53 = UU := by
  obtain ⟨c, hc, hU⟩ := UU_pow
  obtain ⟨d, hd⟩ : ∃ d : Nat, d = 4368491638549381120 / 4503599627370496 - 1 := ⟨_, rfl⟩
  have hd2 : d = 969 := by omega
  unfold vl
  rw [if_neg (by decide), ← hd, hU, show c = 52 + d + 53 by omega, Nat.pow_add, Nat.pow_add]
theorem rung_UU (N : Nat) : rung (N * UU) (-2148) = rn N := by
  obtain ⟨c, hc, hU⟩ := UU_pow
  have := rung_shift N c (-1074)
  rw [show ((-1074 : Int) - (c : Nat)) = -2148 by omega] at this
  rw [hU, this]; rfl
/-- the product by 1 -/
theorem mul_one {y : Nat} (h : y < 9218868437227405312) : double.mul 4607182418800017408 y = some y := by
  rw [mul_some _ _ (by decide) h, one_v, Nat.mul_comm, rung_UU, rn_vl h]
/-- the product by 2^-53 of a number that lies 53 places too high -/
theorem mul_small {y N : Nat} (h : y < 9218868437227405312) (hv : vl y = N * 2 ^ 53) : double.mul 4368491638549381120 y = some (rn N) := by
  rw [mul_some _ _ (by decide) h, hv, Nat.mul_left_comm, small_v, rung_UU]
end Gn
