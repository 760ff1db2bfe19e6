import Derived.Test.YteokcgclmgleiaaDoorTxB
namespace Go.Proofs.YteokcgclmgleiaaDoor
open Go.RowKit

theorem sgn_and (a : Nat) (h : a < 18446744073709551616) : bits .and .u64 (a : Int) 9223372036854775808 = ((if a < 9223372036854775808 then 0 else 9223372036854775808 : Nat) : Int) := by
  rw [show (9223372036854775808 : Int) = ((9223372036854775808 : Nat) : Int) from rfl, bits_and_u64_nat a _ h (by decide)]
  congr 1
  apply Nat.eq_of_testBit_eq
  intro i
  rw [Nat.testBit_and, show (9223372036854775808 : Nat) = 2 ^ 63 from rfl, Nat.testBit_two_pow]
  by_cases hi : 63 = i
  · subst hi
    rw [Nat.testBit_eq_decide_div_mod_eq]
    by_cases hs : a < 2 ^ 63
    · rw [if_pos hs, decide_eq_false (by omega)]; rfl
    · rw [if_neg hs, decide_eq_true (by omega), Nat.testBit_two_pow]; simp
  · rw [decide_eq_false hi, Bool.and_false]
    split
    · simp
    · rw [Nat.testBit_two_pow, decide_eq_false hi]
set_option maxHeartbeats 400000 in
theorem text_any (a : Nat) (h : a < 18446744073709551616) (w : World) (hT : Tab64 w) (hT2 : Tab10 w) :
    Calls Tryd.prog 6 #[.int .u64 (a : Int)] w fun e w' => e = .returned (.string (textB a)) ∧ Below w.heap.size w w' := by
  have HC := Lib.hid (canon_any a h)
  have hc : Gn.canonW a < 18446744073709551616 := by unfold Gn.canonW; split <;> omega
  unfold textB
  generalize Gn.canonW a = c at *
  have hs := sgn_and c hc
  have hn := abs_andNot c hc
  by_cases h0 : c < 9223372036854775808
  · rw [if_pos h0]
    rw [if_pos h0] at hs
    have HA := Lib.hid (amountText_any c hc w hT hT2)
    clear h0 hT hT2
    generalize amtB c = s at *
    go_enter Tryd.func6, Tryd.ntmps6
    go_wp2_with (first
      | (go_at_call 8; refine (HC.out _).mono ?_; rintro e w' ⟨rfl, rfl⟩)
      | (go_at_call 22; refine HA.out.mono ?_; rintro e w' ⟨rfl, hb⟩))
    go_ret
    exact ⟨rfl, hb⟩
  · rw [if_neg h0]
    rw [if_neg h0] at hs
    have hsz := amt_size (c % 9223372036854775808)
    have HA := Lib.hid (amountText_any (c % 9223372036854775808) (by omega) w hT hT2)
    have hadd : ∀ w1 : World, (Op.stringOp .add ⟨#[45]⟩ (amtB (c % 9223372036854775808))).run Tryd.prog w1 = .ok (.string ((⟨#[45]⟩ : ByteArray) ++ amtB (c % 9223372036854775808))) w1 := fun w1 =>
      run_string_add_sum w1 _ _ (by show 1 + (amtB (c % 9223372036854775808)).size ≤ _; omega)
    clear h0 hT hT2
    generalize (⟨#[45]⟩ : ByteArray) ++ amtB (c % 9223372036854775808) = t at *
    generalize amtB (c % 9223372036854775808) = s at *
    go_enter Tryd.func6, Tryd.ntmps6
    go_wp2_with (first
      | (go_at_call 8; refine (HC.out _).mono ?_; rintro e w' ⟨rfl, rfl⟩)
      | (go_at_call 22; refine HA.out.mono ?_; rintro e w' ⟨rfl, hb⟩))
    go_ret
    exact ⟨rfl, hb⟩
end Go.Proofs.YteokcgclmgleiaaDoor
