import Derived.Test.YteokcgclmgleiaaDoorPsH
namespace Go.Proofs.YteokcgclmgleiaaDoor
open Go.RowKit

theorem odd_unique {m n A B : Nat} (h : m * 2 ^ A = n * 2 ^ B) (hm : m % 2 = 1) (hn : n % 2 = 1) : m = n ∧ A = B := by
  have key : ∀ {m n A B : Nat}, m * 2 ^ A = n * 2 ^ B → m % 2 = 1 → n % 2 = 1 → A ≤ B → m = n ∧ A = B := by
    intro m n A B h hm hn hle
    obtain ⟨d, rfl⟩ := Nat.exists_eq_add_of_le hle
    rw [Nat.pow_add, Nat.mul_comm (2 ^ A), ← Nat.mul_assoc] at h
    have h2 := Nat.eq_of_mul_eq_mul_right (Nat.two_pow_pos A) h
    cases d with
    | zero => rw [Nat.pow_zero, Nat.mul_one] at h2; exact ⟨h2, rfl⟩
    | succ d => exfalso; rw [Nat.pow_succ, ← Nat.mul_assoc] at h2; omega
  rcases Nat.le_total A B with hle | hle
  · exact key h hm hn hle
  · obtain ⟨e1, e2⟩ := key h.symm hn hm hle
    exact ⟨e1.symm, e2.symm⟩
/-- an amount: its odd number and its power -/
theorem amt_parts (a : Nat) (h : a < 9218868437227405312) (hc : 3 ≤ clsN a) : oN a % 2 = 1 ∧ Gn.vl a = oN a * 2 ^ (pN a + 1074).toNat ∧ -1074 ≤ pN a := by
  have hne := tM_ne a hc
  have hlt := tM_lt a
  have hE := tE_bd a
  obtain ⟨m, hm, _⟩ := Lib.ctzFrom_spec 64 (tM a) (by omega) (by omega)
  have ez : Lib.ctz 64 (tM a) = Lib.ctzFrom 64 (tM a) := by unfold Lib.ctz; rw [if_neg hne]
  rw [← ez] at hm
  have ho : oN a = 2 * m + 1 := by
    unfold oN
    conv => lhs; lhs; rw [hm]
    exact Nat.mul_div_cancel_left _ (Nat.two_pow_pos _)
  have hv : Gn.vl a = tM a * 2 ^ (tE a + 1074).toNat := by
    unfold Gn.vl tM tE fx fm
    by_cases h1 : a < 4503599627370496
    · have e : a / 4503599627370496 % 2048 = 0 := by omega
      rw [if_pos h1, if_pos e, if_pos e]
      show a = a % 4503599627370496 * 2 ^ 0
      omega
    · have e : ¬ a / 4503599627370496 % 2048 = 0 := by omega
      rw [if_neg h1, if_neg e, if_neg e]
      rw [show ((((a / 4503599627370496 % 2048 : Nat) : Int) - 1075) + 1074).toNat = a / 4503599627370496 - 1 by omega, Nat.add_comm]
  refine ⟨by omega, ?_, by unfold pN; omega⟩
  rw [hv]
  conv => lhs; lhs; rw [hm, ← ho, Nat.mul_comm]
  rw [Nat.mul_assoc, ← Nat.pow_add]
  unfold pN
  rw [show (tE a + (Lib.ctz 64 (tM a) : Int) + 1074).toNat = Lib.ctz 64 (tM a) + (tE a + 1074).toNat by omega]
theorem odd_digits {s : ByteArray} {n : Nat} (h : s.toList = Lib.decDigits n) (ho : n % 2 = 1) : oddB s = true ∧ numV s = n := by
  have hv : numV s = n := by unfold numV; rw [h]; exact dec_digits n
  have hw : wholeB s = true := by rw [whole_list, h]; exact digits_whole n
  refine ⟨?_, hv⟩
  unfold oddB
  rw [hw, Bool.true_and, beq_iff_eq]
  have hl := size_list s
  have hs := whole_size hw
  have ha := whole_all hw
  have hne : s.toList ≠ [] := fun e => by rw [e] at hl; simp at hl; omega
  have hd : digB (s.toList.getLast hne) = true := List.all_eq_true.mp ha _ (List.getLast_mem hne)
  have hg := dig_val hd
  rw [List.getLastD_eq_getLast?, List.getLast?_eq_some_getLast hne, Option.getD_some]
  unfold numV at hv
  have e : dec 0 s.toList = dec 0 s.toList.dropLast * 10 + ((s.toList.getLast hne).toNat - 48) := by
    rw [← dec_append, List.dropLast_concat_getLast hne]
  omega
/-- how long a text of a number is -/
theorem digits_len {n d : Nat} (h1 : 1 ≤ d) (h : n < 10 ^ d) : (Lib.decDigits n).length ≤ d := by
  induction d generalizing n with
  | zero => omega
  | succ d ih =>
    rcases Nat.lt_or_ge n 10 with h10 | h10
    · rw [Lib.decDigits_one h10]; simp
    · rw [digits_rec h10, List.length_append]
      have hd : 1 ≤ d := by
        rcases Nat.eq_zero_or_pos d with h0 | h0
        · subst h0; rw [Nat.pow_one] at h; omega
        · exact h0
      have := ih hd (n := n / 10) (by rw [Nat.pow_succ] at h; omega)
      simp; omega
end Go.Proofs.YteokcgclmgleiaaDoor
