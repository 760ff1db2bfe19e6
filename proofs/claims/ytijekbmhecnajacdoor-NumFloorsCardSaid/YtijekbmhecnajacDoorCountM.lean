import Derived.Test.YtijekbmhecnajacDoorOrdF
import Derived.Test.YtijekbmhecnajacDoorMathH
import Derived.Test.YtijekbmhecnajacDoorWalkE
namespace Go.Proofs.YtijekbmhecnajacDoor
open Gn

theorem tup_eq {x y : Int} (h : x = y) : Value.tuple #[.int .i64 x, .int .i64 0] = .tuple #[.int .i64 y, .int .i64 0] := by rw [h]
theorem of_eq (n : Int) : ofW n = wd (decide (n < 0)) (rn (n.natAbs * UU)) := by
  show Ieee.double.write (.number (n < 0) n.natAbs 0) = _
  rw [write_number, rung_rn _ 0 (by omega), show ((0 : Int) + 1074).toNat = 1074 from rfl, UU_def]
theorem sgn_mul (b : Bool) (M : Nat) : sgn b (M * UU) = sgn b M * (UU : Int) := by
  cases b
  · simp [sgn]
  · simp [sgn, Int.neg_mul]
/-- Int of a whole amount below 2^53 -/
theorem int_whole (b : Bool) (M : Nat) (h : M < 9007199254740992) : intR (wd b (rn (M * UU))) = .tuple #[.int .i64 (sgn b M), .int .i64 0] := by
  obtain ⟨e1, e2⟩ := rn_whole h
  have hp := UU_pos
  have hok : intOk (wd b (rn (M * UU))) = true := by
    rw [intOk_wd b _ e2, e1]
    refine decide_eq_true ⟨Nat.mul_mod_left _ _, ?_⟩
    have h1 : M * UU < 9223372036854775808 * UU := Nat.mul_lt_mul_of_pos_right (by omega) hp
    generalize M * UU = x at *
    generalize 9223372036854775808 * UU = B at *
    cases b <;> simp only [sgn] <;> simp <;> omega
  rw [int_yes hok, intV_wd b _ hok e2, e1, Nat.mul_div_cancel _ hp]
theorem eq_wd (s t : Bool) (r q : Nat) (hr : r ≤ 9218868437227405312) (hq : q ≤ 9218868437227405312) : eqW (wd s r) (wd t q) = decide (sgn s (vl r) = sgn t (vl q)) := by
  unfold eqW; rw [order_wd s t r q hr hq, cmp_is_eq]
theorem lt_wd (s t : Bool) (r q : Nat) (hr : r ≤ 9218868437227405312) (hq : q ≤ 9218868437227405312) : ltW (wd s r) (wd t q) = decide (sgn s (vl r) < sgn t (vl q)) := by
  unfold ltW; rw [order_wd s t r q hr hq, cmp_is_lt]
theorem ok_num {a : Nat} (ha : a < 18446744073709551616) (h : intOk a = true) : ∃ s r, r < 9218868437227405312 ∧ a = wd s r := by
  unfold intOk at h
  simp only [Bool.and_eq_true, Bool.or_eq_true, beq_iff_eq] at h
  obtain ⟨s, r, hr, e, _⟩ := int_num ha h.1.1 h.1.2
  exact ⟨s, r, hr, e⟩
/-- what Int takes Of gives back -/
theorem of_int {a : Nat} (ha : a < 18446744073709551616) (h : intOk a = true) : eqW (ofW (intV a)) a = true := by
  obtain ⟨s, r, hr, rfl⟩ := ok_num ha h
  have hv := intV_wd s r h hr
  have hm : vl r % UU = 0 := by
    rw [intOk_wd s r hr] at h; exact (of_decide_eq_true h).1
  have hN : vl r / UU * UU = vl r := by
    have := Nat.div_add_mod (vl r) UU; rw [hm, Nat.add_zero, Nat.mul_comm] at this; exact this
  have hab0 : ∀ N : Nat, (sgn s N).natAbs = N := fun N => by cases s <;> simp [sgn]
  have hab := hab0 (vl r / UU)
  rw [hv, of_eq, hab, hN, rn_vl hr, eq_wd _ _ _ _ (by omega) (by omega)]
  refine decide_eq_true ?_
  have hz : vl r / UU = 0 → vl r = 0 := fun k => by rw [k] at hN; simpa using hN.symm
  generalize vl r / UU = N at *
  generalize vl r = v at *
  cases s
  · simp only [sgn]; simp; omega
  · by_cases k : N = 0
    · have := hz k; subst this; simp [sgn]
    · have : decide (sgn true N < 0) = true := decide_eq_true (by simp only [sgn]; simp; omega)
      rw [this]
theorem vl_of {n : Int} (h : n.natAbs < 9007199254740992) : vl (rn (n.natAbs * UU)) = n.natAbs * UU ∧ rn (n.natAbs * UU) < 9218868437227405312 := rn_whole h
theorem sgn_of (n : Int) : sgn (decide (n < 0)) (n.natAbs * UU) = n * (UU : Int) := by
  rw [sgn_mul]
  congr 1
  by_cases h : n < 0
  · rw [decide_eq_true h]; simp only [sgn]; simp; omega
  · rw [decide_eq_false h]; simp only [sgn]; simp; omega
theorem add_of (n m : Int) (hn : n.natAbs ≤ 33554432) (hm : m.natAbs ≤ 33554432) : intR (addW (ofW n) (ofW m)) = .tuple #[.int .i64 (n + m), .int .i64 0] := by
  obtain ⟨a1, a2⟩ := vl_of (n := n) (by omega)
  obtain ⟨b1, b2⟩ := vl_of (n := m) (by omega)
  have hp := UU_pos
  rw [of_eq, of_eq, add_fin _ _ _ _ a2 b2]
  have hT : tot (decide (n < 0)) (decide (m < 0)) (rn (n.natAbs * UU)) (rn (m.natAbs * UU)) = (n + m) * (UU : Int) := by
    unfold tot; rw [a1, b1, sgn_of, sgn_of, Int.add_mul]
  have hN : ((n + m) * (UU : Int)).natAbs = (n + m).natAbs * UU := by rw [Int.natAbs_mul]; rfl
  rw [hT, hN, int_whole _ _ (by omega)]
  refine tup_eq ?_
  have hz : (n + m) * (UU : Int) = 0 ↔ n + m = 0 := by
    constructor
    · intro k; rcases Int.mul_eq_zero.1 k with k | k
      · exact k
      · omega
    · intro k; rw [k]; simp
  have hl : (n + m) * (UU : Int) < 0 ↔ n + m < 0 := by
    constructor
    · intro k
      rcases Int.lt_or_le (n + m) 0 with j | j
      · exact j
      · have := Int.mul_nonneg j (Int.natCast_nonneg UU); omega
    · intro k; exact Int.mul_neg_of_neg_of_pos k (by omega)
  simp only [hz, hl]
  by_cases k : n + m = 0
  · rw [if_pos k, k]; cases (decide (n < 0) && decide (m < 0)) <;> simp [sgn]
  · rw [if_neg k]
    by_cases j : n + m < 0
    · rw [decide_eq_true j]; simp only [sgn]; simp; omega
    · rw [decide_eq_false j]; simp only [sgn]; simp; omega
theorem shift_by (m k K : Nat) (e : Int) (h : 2 ^ k = K) : rung (m * K) (e - k) = rung m e := by
  rw [← h]; exact rung_shift m k e
theorem UU_two : (2 : Nat) ^ 2148 = UU * UU := (pow_split 1074 1074 2148 rfl).trans (by rw [UU_def])
theorem rung_prod (x y : Nat) : rung (x * UU * (y * UU)) (-2148) = rn (x * y * UU) := by
  have h1 := shift_by (x * y) 2148 (UU * UU) 0 UU_two
  have h2 := rung_rn (x * y) 0 (by omega)
  rw [show ((0 : Int) + 1074).toNat = 1074 from rfl, UU_def] at h2
  rw [← h2, ← h1, Nat.mul_mul_mul_comm x UU y UU]
  rfl
theorem mul_of (n m : Int) (hn : n.natAbs ≤ 33554432) (hm : m.natAbs ≤ 33554432) : intR (mulW (ofW n) (ofW m)) = .tuple #[.int .i64 (n * m), .int .i64 0] := by
  obtain ⟨a1, a2⟩ := vl_of (n := n) (by omega)
  obtain ⟨b1, b2⟩ := vl_of (n := m) (by omega)
  have hb : n.natAbs * m.natAbs < 9007199254740992 := by
    have := Nat.mul_le_mul hn hm
    omega
  rw [of_eq, of_eq, mul_fin _ _ _ _ a2 b2, a1, b1, rung_prod, int_whole _ _ hb]
  refine tup_eq ?_
  have hnm : (n * m).natAbs = n.natAbs * m.natAbs := Int.natAbs_mul n m
  by_cases p : n < 0
  · by_cases q : m < 0
    · rw [decide_eq_true p, decide_eq_true q]
      have := Int.mul_pos_of_neg_of_neg p q
      simp only [sgn]; simp only [Bool.xor_self]; simp; omega
    · rw [decide_eq_true p, decide_eq_false q]
      have : n * m ≤ 0 := Int.mul_nonpos_of_nonpos_of_nonneg (by omega) (by omega)
      simp only [sgn]; simp; omega
  · by_cases q : m < 0
    · rw [decide_eq_false p, decide_eq_true q]
      have : n * m ≤ 0 := Int.mul_nonpos_of_nonneg_of_nonpos (by omega) (by omega)
      simp only [sgn]; simp; omega
    · rw [decide_eq_false p, decide_eq_false q]
      have : 0 ≤ n * m := Int.mul_nonneg (by omega) (by omega)
      simp only [sgn]; simp; omega
theorem lt_of (n m : Int) (hn : n.natAbs ≤ 33554432) (hm : m.natAbs ≤ 33554432) : ltW (ofW n) (ofW m) = decide (n < m) := by
  obtain ⟨a1, a2⟩ := vl_of (n := n) (by omega)
  obtain ⟨b1, b2⟩ := vl_of (n := m) (by omega)
  have hp := UU_pos
  rw [of_eq, of_eq, lt_wd _ _ _ _ (by omega) (by omega), a1, b1, sgn_of, sgn_of]
  have : n * (UU : Int) < m * (UU : Int) ↔ n < m := Int.mul_lt_mul_right (by omega)
  simp only [this]
theorem mul_bd (n m : Int) (hn : n.natAbs ≤ 33554432) (hm : m.natAbs ≤ 33554432) : -1125899906842624 ≤ n * m ∧ n * m ≤ 1125899906842624 := by
  have h := Nat.mul_le_mul hn hm
  have : (n * m).natAbs = n.natAbs * m.natAbs := Int.natAbs_mul n m
  omega
end Go.Proofs.YtijekbmhecnajacDoor
