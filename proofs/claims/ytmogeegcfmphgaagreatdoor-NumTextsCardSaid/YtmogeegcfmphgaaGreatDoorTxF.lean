import Derived.Test.YtmogeegcfmphgaaGreatDoorTxE
import Derived.LoopN
namespace Go.Proofs.YtmogeegcfmphgaaGreatDoor
open Go.RowKit

theorem tM_split (a : Nat) (hc : 3 ≤ clsN a) : tM a = 2 ^ Lib.ctz 64 (tM a) * oN a ∧ oN a % 2 = 1 := by
  have hM := tM_lt a
  have h0 := tM_ne a hc
  obtain ⟨q, hq, _⟩ := Lib.ctzFrom_spec 64 (tM a) (by omega) (by omega)
  have e : Lib.ctz 64 (tM a) = Lib.ctzFrom 64 (tM a) := by unfold Lib.ctz; rw [if_neg h0]
  have ho : oN a = 2 * q + 1 := by
    unfold oN
    rw [e]
    conv => lhs; lhs; rw [hq]
    exact Nat.mul_div_cancel_left _ (Nat.two_pow_pos _)
  rw [e, ho]
  exact ⟨hq, by omega⟩
theorem sgn_size (a : Nat) : (sgnB a).size ≤ 1 := by unfold sgnB; split <;> decide

set_option maxHeartbeats 400000 in
set_option maxRecDepth 8000 in
theorem rtext_finP (a : Nat) (h : a < 18446744073709551616) (hc : 3 ≤ clsN a) (h0 : a < 9223372036854775808) (w : World) :
    Calls Tryz.prog 6 #[.int .u64 (a : Int)] w fun e w' => e = .returned (.string (sgnB a ++ amtB a)) ∧ Below w.heap.size w w' := by
  have HN := Lib.hid (rnan_any a h)
  rw [decide_eq_false (by omega)] at HN
  have HT := Lib.hid (rtaken_any a h)
  have hs : bits .and .u64 (a : Int) 9223372036854775808 = 0 := by rw [sgn_and a h, if_pos h0]; rfl
  have hsg : sgnB a = ⟨#[]⟩ := if_pos h0
  have hn := abs_andNot a h
  have hinf : (((a % 9223372036854775808 : Nat) : Int) == 9218868437227405312) = false := by
    rw [beq_eq_false_iff_ne]
    intro e
    have e' : a % 9223372036854775808 = 9218868437227405312 := by omega
    have : clsN a = 1 := by unfold clsN; rw [if_neg (by omega), if_pos e']
    omega
  have hamt : amtB a = (⟨(Lib.decDigits (oN a)).toArray⟩ : ByteArray) ++ ⟨#[112]⟩ ++ ⟨(Lib.itoa (pN a)).toArray⟩ := by unfold amtB; rw [if_neg (by omega), if_neg (by omega), if_neg (by omega)]
  obtain ⟨hsp, hodd⟩ := tM_split a hc
  have hM := tM_lt a
  have hz := ctz_lt (tM a) (tM_ne a hc) (by omega)
  have hE := tE_bd a
  have hM0 := tM_ne a hc
  have ho : oN a ≤ tM a := Nat.div_le_self _ _
  have hP : pN a = tE a + (Lib.ctz 64 (tM a) : Int) := rfl
  rw [hamt, hsg]
  generalize htg : (⟨#[]⟩ : ByteArray) ++ ((⟨(Lib.decDigits (oN a)).toArray⟩ : ByteArray) ++ ⟨#[112]⟩ ++ ⟨(Lib.itoa (pN a)).toArray⟩) = tgt
  have HTG := Lib.hid htg
  clear hamt hsg hc h0 htg
  generalize hz' : Lib.ctz 64 (tM a) = z at *
  generalize tM a = M at *
  generalize tE a = E at *
  generalize oN a = o at *
  generalize pN a = P at *
  generalize a % 9223372036854775808 = x at *
  have hm0 : ((M : Int) == 0) = false := by rw [beq_eq_false_iff_ne]; omega
  have HSP := Lib.hid hsp
  clear hsp hz'
  have HD := Lib.hid (digits_any o (by omega))
  have l1 := nd_le o (by omega)
  go_enter Tryz.func6, Tryz.ntmps6
  go_wp2_with fail
  refine (HN.out _).mono ?_
  rintro e w1 ⟨rfl, rfl⟩
  go_wp2_with fail
  refine (HT.out _).mono ?_
  rintro e w1 ⟨rfl, rfl⟩
  go_wp2_with fail
  go_loopw [4, 5] (fun m e wr => ∃ i : Nat, i ≤ z ∧ m = .int .u64 ((2 ^ (z - i) * o : Nat) : Int) ∧ e = .int .i64 (E + (i : Int)) ∧ wr = w1) (fun _ e _ => (E + (z : Int) - intOf e).toNat)
  case atStart => exact ⟨0, Nat.zero_le _, by rw [Nat.sub_zero, ← HSP.out], by simp, rfl⟩
  case round =>
    obtain ⟨i, hiz, rfl, rfl, rfl⟩ := hrel
    by_cases hi : i < z
    · have e1 : 2 ^ (z - i) * o = 2 * (2 ^ (z - (i + 1)) * o) := by
        rw [show z - i = (z - (i + 1)) + 1 by omega, Nat.pow_succ, Nat.mul_comm (2 ^ (z - (i + 1))) 2, Nat.mul_assoc]
      have e2 : 2 ^ (z - i) * o ≤ M := by
        rw [HSP.out]
        exact Nat.mul_le_mul_right _ (Nat.pow_le_pow_right (by decide) (by omega))
      have HQ : Hid (∃ r, 2 ^ (z - (i + 1)) * o = r) := ⟨_, rfl⟩
      generalize hr : 2 ^ (z - (i + 1)) * o = r at *
      generalize 2 ^ (z - i) * o = m at *
      have ha : bits .and .u64 (m : Int) 1 = 0 := by rw [and1 m (by omega), show m % 2 = 0 by omega]; rfl
      have hd : (m : Int) / 2 = (r : Int) := by omega
      have hml : (m : Int) < 9007199254740992 := by omega
      have HR := Lib.hid hr
      clear HQ e1 e2 hr
      go_wp2_with fail
      exact ⟨⟨i + 1, by omega, by rw [HR.out], by go_num, trivial⟩, by simp [intOf]; omega⟩
    · obtain rfl : i = z := by omega
      have ha : bits .and .u64 (o : Int) 1 = 1 := by rw [and1 o (by omega), hodd]; rfl
      rw [Nat.sub_self, Nat.pow_zero, Nat.one_mul]
      rw [← hP]
      by_cases hneg : P < 0
      · obtain ⟨u, hu', huv, hu⟩ : ∃ u : Nat, -P = (u : Int) ∧ (-P).toNat = u ∧ u < 18446744073709551616 := ⟨(-P).toNat, by omega, rfl, by omega⟩
        have HD2 := Lib.hid (digits_any u hu)
        have hub : (u : Int) ≤ 5000 := by omega
        have l2 := nd_le u hu
        have ad1 : ∀ w1 : World, (Op.stringOp .add ⟨#[]⟩ ⟨(Lib.decDigits o).toArray⟩).run Tryz.prog w1 = .ok (.string ((⟨#[]⟩ : ByteArray) ++ ⟨(Lib.decDigits o).toArray⟩)) w1 := fun w1 => run_string_add_sum w1 _ _ (by show 0 + (Lib.decDigits o).toArray.size ≤ _; simp; omega)
        have ad2 : ∀ w1 : World, (Op.stringOp .add ((⟨#[]⟩ : ByteArray) ++ ⟨(Lib.decDigits o).toArray⟩) ⟨#[112, 45]⟩).run Tryz.prog w1 = .ok (.string ((⟨#[]⟩ : ByteArray) ++ ⟨(Lib.decDigits o).toArray⟩ ++ ⟨#[112, 45]⟩)) w1 := fun w1 => run_string_add_sum w1 _ _ (by rw [ByteArray.size_append]; show 0 + (Lib.decDigits o).toArray.size + 2 ≤ _; simp; omega)
        have ad3 : ∀ w1 : World, (Op.stringOp .add ((⟨#[]⟩ : ByteArray) ++ ⟨(Lib.decDigits o).toArray⟩ ++ ⟨#[112, 45]⟩) ⟨(Lib.decDigits u).toArray⟩).run Tryz.prog w1 = .ok (.string ((⟨#[]⟩ : ByteArray) ++ ⟨(Lib.decDigits o).toArray⟩ ++ ⟨#[112, 45]⟩ ++ ⟨(Lib.decDigits u).toArray⟩)) w1 := fun w1 => run_string_add_sum w1 _ _ (by rw [ByteArray.size_append, ByteArray.size_append]; show 0 + (Lib.decDigits o).toArray.size + 2 + (Lib.decDigits u).toArray.size ≤ _; simp; omega)
        have HEQ : Hid ((⟨#[]⟩ : ByteArray) ++ ⟨(Lib.decDigits o).toArray⟩ ++ ⟨#[112, 45]⟩ ++ ⟨(Lib.decDigits u).toArray⟩ = tgt) := by show _ = _; rw [← HTG.out, ← end_neg _ _ _ hneg, huv]
        generalize (⟨#[]⟩ : ByteArray) ++ ⟨(Lib.decDigits o).toArray⟩ ++ ⟨#[112, 45]⟩ ++ ⟨(Lib.decDigits u).toArray⟩ = s3 at *
        generalize (⟨#[]⟩ : ByteArray) ++ ⟨(Lib.decDigits o).toArray⟩ ++ ⟨#[112, 45]⟩ = s2 at *
        generalize (⟨#[]⟩ : ByteArray) ++ ⟨(Lib.decDigits o).toArray⟩ = s1 at *
        generalize (⟨(Lib.decDigits o).toArray⟩ : ByteArray) = d1 at *
        generalize (⟨(Lib.decDigits u).toArray⟩ : ByteArray) = d2 at *
        clear HTG hE hP hodd
        go_wp2_with fail
        refine (HD.out _).mono ?_
        rintro e w2 ⟨rfl, hb2⟩
        go_wp2_with fail
        refine (HD2.out _).mono ?_
        rintro e w3 ⟨rfl, hb3⟩
        have HB := Lib.hid (hb2.trans (hb3.mono hb2.size))
        clear hb2 hb3
        go_wp2_with fail
        go_ret
        exact ⟨by rw [← HEQ.out]; rfl, HB.out⟩
      · obtain ⟨u, rfl, huv, hu⟩ : ∃ u : Nat, P = (u : Int) ∧ P.toNat = u ∧ u < 18446744073709551616 := ⟨P.toNat, by omega, rfl, by omega⟩
        have HD2 := Lib.hid (digits_any u hu)
        have hub : (u : Int) ≤ 5000 := by omega
        have l2 := nd_le u hu
        have ad1 : ∀ w1 : World, (Op.stringOp .add ⟨#[]⟩ ⟨(Lib.decDigits o).toArray⟩).run Tryz.prog w1 = .ok (.string ((⟨#[]⟩ : ByteArray) ++ ⟨(Lib.decDigits o).toArray⟩)) w1 := fun w1 => run_string_add_sum w1 _ _ (by show 0 + (Lib.decDigits o).toArray.size ≤ _; simp; omega)
        have ad2 : ∀ w1 : World, (Op.stringOp .add ((⟨#[]⟩ : ByteArray) ++ ⟨(Lib.decDigits o).toArray⟩) ⟨#[112]⟩).run Tryz.prog w1 = .ok (.string ((⟨#[]⟩ : ByteArray) ++ ⟨(Lib.decDigits o).toArray⟩ ++ ⟨#[112]⟩)) w1 := fun w1 => run_string_add_sum w1 _ _ (by rw [ByteArray.size_append]; show 0 + (Lib.decDigits o).toArray.size + 1 ≤ _; simp; omega)
        have ad3 : ∀ w1 : World, (Op.stringOp .add ((⟨#[]⟩ : ByteArray) ++ ⟨(Lib.decDigits o).toArray⟩ ++ ⟨#[112]⟩) ⟨(Lib.decDigits u).toArray⟩).run Tryz.prog w1 = .ok (.string ((⟨#[]⟩ : ByteArray) ++ ⟨(Lib.decDigits o).toArray⟩ ++ ⟨#[112]⟩ ++ ⟨(Lib.decDigits u).toArray⟩)) w1 := fun w1 => run_string_add_sum w1 _ _ (by rw [ByteArray.size_append, ByteArray.size_append]; show 0 + (Lib.decDigits o).toArray.size + 1 + (Lib.decDigits u).toArray.size ≤ _; simp; omega)
        have HEQ : Hid ((⟨#[]⟩ : ByteArray) ++ ⟨(Lib.decDigits o).toArray⟩ ++ ⟨#[112]⟩ ++ ⟨(Lib.decDigits u).toArray⟩ = tgt) := by show _ = _; rw [← HTG.out, ← end_pos _ _ _ hneg, huv]
        generalize (⟨#[]⟩ : ByteArray) ++ ⟨(Lib.decDigits o).toArray⟩ ++ ⟨#[112]⟩ ++ ⟨(Lib.decDigits u).toArray⟩ = s3 at *
        generalize (⟨#[]⟩ : ByteArray) ++ ⟨(Lib.decDigits o).toArray⟩ ++ ⟨#[112]⟩ = s2 at *
        generalize (⟨#[]⟩ : ByteArray) ++ ⟨(Lib.decDigits o).toArray⟩ = s1 at *
        generalize (⟨(Lib.decDigits o).toArray⟩ : ByteArray) = d1 at *
        generalize (⟨(Lib.decDigits u).toArray⟩ : ByteArray) = d2 at *
        clear HTG hE hP hodd
        go_wp2_with fail
        refine (HD.out _).mono ?_
        rintro e w2 ⟨rfl, hb2⟩
        go_wp2_with fail
        refine (HD2.out _).mono ?_
        rintro e w3 ⟨rfl, hb3⟩
        have HB := Lib.hid (hb2.trans (hb3.mono hb2.size))
        clear hb2 hb3
        go_wp2_with fail
        go_ret
        exact ⟨by rw [← HEQ.out]; rfl, HB.out⟩

set_option maxHeartbeats 400000 in
set_option maxRecDepth 8000 in
theorem rtext_finN (a : Nat) (h : a < 18446744073709551616) (hc : 3 ≤ clsN a) (h0 : ¬ a < 9223372036854775808) (w : World) :
    Calls Tryz.prog 6 #[.int .u64 (a : Int)] w fun e w' => e = .returned (.string (sgnB a ++ amtB a)) ∧ Below w.heap.size w w' := by
  have HN := Lib.hid (rnan_any a h)
  rw [decide_eq_false (by omega)] at HN
  have HT := Lib.hid (rtaken_any a h)
  have hs : bits .and .u64 (a : Int) 9223372036854775808 = 9223372036854775808 := by rw [sgn_and a h, if_neg h0]; rfl
  have hsg : sgnB a = ⟨#[45]⟩ := if_neg h0
  have hn := abs_andNot a h
  have hinf : (((a % 9223372036854775808 : Nat) : Int) == 9218868437227405312) = false := by
    rw [beq_eq_false_iff_ne]
    intro e
    have e' : a % 9223372036854775808 = 9218868437227405312 := by omega
    have : clsN a = 1 := by unfold clsN; rw [if_neg (by omega), if_pos e']
    omega
  have hamt : amtB a = (⟨(Lib.decDigits (oN a)).toArray⟩ : ByteArray) ++ ⟨#[112]⟩ ++ ⟨(Lib.itoa (pN a)).toArray⟩ := by unfold amtB; rw [if_neg (by omega), if_neg (by omega), if_neg (by omega)]
  obtain ⟨hsp, hodd⟩ := tM_split a hc
  have hM := tM_lt a
  have hz := ctz_lt (tM a) (tM_ne a hc) (by omega)
  have hE := tE_bd a
  have hM0 := tM_ne a hc
  have ho : oN a ≤ tM a := Nat.div_le_self _ _
  have hP : pN a = tE a + (Lib.ctz 64 (tM a) : Int) := rfl
  rw [hamt, hsg]
  generalize htg : (⟨#[45]⟩ : ByteArray) ++ ((⟨(Lib.decDigits (oN a)).toArray⟩ : ByteArray) ++ ⟨#[112]⟩ ++ ⟨(Lib.itoa (pN a)).toArray⟩) = tgt
  have HTG := Lib.hid htg
  clear hamt hsg hc h0 htg
  generalize hz' : Lib.ctz 64 (tM a) = z at *
  generalize tM a = M at *
  generalize tE a = E at *
  generalize oN a = o at *
  generalize pN a = P at *
  generalize a % 9223372036854775808 = x at *
  have hm0 : ((M : Int) == 0) = false := by rw [beq_eq_false_iff_ne]; omega
  have HSP := Lib.hid hsp
  clear hsp hz'
  have HD := Lib.hid (digits_any o (by omega))
  have l1 := nd_le o (by omega)
  go_enter Tryz.func6, Tryz.ntmps6
  go_wp2_with fail
  refine (HN.out _).mono ?_
  rintro e w1 ⟨rfl, rfl⟩
  go_wp2_with fail
  refine (HT.out _).mono ?_
  rintro e w1 ⟨rfl, rfl⟩
  go_wp2_with fail
  go_loopw [4, 5] (fun m e wr => ∃ i : Nat, i ≤ z ∧ m = .int .u64 ((2 ^ (z - i) * o : Nat) : Int) ∧ e = .int .i64 (E + (i : Int)) ∧ wr = w1) (fun _ e _ => (E + (z : Int) - intOf e).toNat)
  case atStart => exact ⟨0, Nat.zero_le _, by rw [Nat.sub_zero, ← HSP.out], by simp, rfl⟩
  case round =>
    obtain ⟨i, hiz, rfl, rfl, rfl⟩ := hrel
    by_cases hi : i < z
    · have e1 : 2 ^ (z - i) * o = 2 * (2 ^ (z - (i + 1)) * o) := by
        rw [show z - i = (z - (i + 1)) + 1 by omega, Nat.pow_succ, Nat.mul_comm (2 ^ (z - (i + 1))) 2, Nat.mul_assoc]
      have e2 : 2 ^ (z - i) * o ≤ M := by
        rw [HSP.out]
        exact Nat.mul_le_mul_right _ (Nat.pow_le_pow_right (by decide) (by omega))
      have HQ : Hid (∃ r, 2 ^ (z - (i + 1)) * o = r) := ⟨_, rfl⟩
      generalize hr : 2 ^ (z - (i + 1)) * o = r at *
      generalize 2 ^ (z - i) * o = m at *
      have ha : bits .and .u64 (m : Int) 1 = 0 := by rw [and1 m (by omega), show m % 2 = 0 by omega]; rfl
      have hd : (m : Int) / 2 = (r : Int) := by omega
      have hml : (m : Int) < 9007199254740992 := by omega
      have HR := Lib.hid hr
      clear HQ e1 e2 hr
      go_wp2_with fail
      exact ⟨⟨i + 1, by omega, by rw [HR.out], by go_num, trivial⟩, by simp [intOf]; omega⟩
    · obtain rfl : i = z := by omega
      have ha : bits .and .u64 (o : Int) 1 = 1 := by rw [and1 o (by omega), hodd]; rfl
      rw [Nat.sub_self, Nat.pow_zero, Nat.one_mul]
      rw [← hP]
      by_cases hneg : P < 0
      · obtain ⟨u, hu', huv, hu⟩ : ∃ u : Nat, -P = (u : Int) ∧ (-P).toNat = u ∧ u < 18446744073709551616 := ⟨(-P).toNat, by omega, rfl, by omega⟩
        have HD2 := Lib.hid (digits_any u hu)
        have hub : (u : Int) ≤ 5000 := by omega
        have l2 := nd_le u hu
        have ad1 : ∀ w1 : World, (Op.stringOp .add ⟨#[45]⟩ ⟨(Lib.decDigits o).toArray⟩).run Tryz.prog w1 = .ok (.string ((⟨#[45]⟩ : ByteArray) ++ ⟨(Lib.decDigits o).toArray⟩)) w1 := fun w1 => run_string_add_sum w1 _ _ (by show 1 + (Lib.decDigits o).toArray.size ≤ _; simp; omega)
        have ad2 : ∀ w1 : World, (Op.stringOp .add ((⟨#[45]⟩ : ByteArray) ++ ⟨(Lib.decDigits o).toArray⟩) ⟨#[112, 45]⟩).run Tryz.prog w1 = .ok (.string ((⟨#[45]⟩ : ByteArray) ++ ⟨(Lib.decDigits o).toArray⟩ ++ ⟨#[112, 45]⟩)) w1 := fun w1 => run_string_add_sum w1 _ _ (by rw [ByteArray.size_append]; show 1 + (Lib.decDigits o).toArray.size + 2 ≤ _; simp; omega)
        have ad3 : ∀ w1 : World, (Op.stringOp .add ((⟨#[45]⟩ : ByteArray) ++ ⟨(Lib.decDigits o).toArray⟩ ++ ⟨#[112, 45]⟩) ⟨(Lib.decDigits u).toArray⟩).run Tryz.prog w1 = .ok (.string ((⟨#[45]⟩ : ByteArray) ++ ⟨(Lib.decDigits o).toArray⟩ ++ ⟨#[112, 45]⟩ ++ ⟨(Lib.decDigits u).toArray⟩)) w1 := fun w1 => run_string_add_sum w1 _ _ (by rw [ByteArray.size_append, ByteArray.size_append]; show 1 + (Lib.decDigits o).toArray.size + 2 + (Lib.decDigits u).toArray.size ≤ _; simp; omega)
        have HEQ : Hid ((⟨#[45]⟩ : ByteArray) ++ ⟨(Lib.decDigits o).toArray⟩ ++ ⟨#[112, 45]⟩ ++ ⟨(Lib.decDigits u).toArray⟩ = tgt) := by show _ = _; rw [← HTG.out, ← end_neg _ _ _ hneg, huv]
        generalize (⟨#[45]⟩ : ByteArray) ++ ⟨(Lib.decDigits o).toArray⟩ ++ ⟨#[112, 45]⟩ ++ ⟨(Lib.decDigits u).toArray⟩ = s3 at *
        generalize (⟨#[45]⟩ : ByteArray) ++ ⟨(Lib.decDigits o).toArray⟩ ++ ⟨#[112, 45]⟩ = s2 at *
        generalize (⟨#[45]⟩ : ByteArray) ++ ⟨(Lib.decDigits o).toArray⟩ = s1 at *
        generalize (⟨(Lib.decDigits o).toArray⟩ : ByteArray) = d1 at *
        generalize (⟨(Lib.decDigits u).toArray⟩ : ByteArray) = d2 at *
        clear HTG hE hP hodd
        go_wp2_with fail
        refine (HD.out _).mono ?_
        rintro e w2 ⟨rfl, hb2⟩
        go_wp2_with fail
        refine (HD2.out _).mono ?_
        rintro e w3 ⟨rfl, hb3⟩
        have HB := Lib.hid (hb2.trans (hb3.mono hb2.size))
        clear hb2 hb3
        go_wp2_with fail
        go_ret
        exact ⟨by rw [← HEQ.out]; rfl, HB.out⟩
      · obtain ⟨u, rfl, huv, hu⟩ : ∃ u : Nat, P = (u : Int) ∧ P.toNat = u ∧ u < 18446744073709551616 := ⟨P.toNat, by omega, rfl, by omega⟩
        have HD2 := Lib.hid (digits_any u hu)
        have hub : (u : Int) ≤ 5000 := by omega
        have l2 := nd_le u hu
        have ad1 : ∀ w1 : World, (Op.stringOp .add ⟨#[45]⟩ ⟨(Lib.decDigits o).toArray⟩).run Tryz.prog w1 = .ok (.string ((⟨#[45]⟩ : ByteArray) ++ ⟨(Lib.decDigits o).toArray⟩)) w1 := fun w1 => run_string_add_sum w1 _ _ (by show 1 + (Lib.decDigits o).toArray.size ≤ _; simp; omega)
        have ad2 : ∀ w1 : World, (Op.stringOp .add ((⟨#[45]⟩ : ByteArray) ++ ⟨(Lib.decDigits o).toArray⟩) ⟨#[112]⟩).run Tryz.prog w1 = .ok (.string ((⟨#[45]⟩ : ByteArray) ++ ⟨(Lib.decDigits o).toArray⟩ ++ ⟨#[112]⟩)) w1 := fun w1 => run_string_add_sum w1 _ _ (by rw [ByteArray.size_append]; show 1 + (Lib.decDigits o).toArray.size + 1 ≤ _; simp; omega)
        have ad3 : ∀ w1 : World, (Op.stringOp .add ((⟨#[45]⟩ : ByteArray) ++ ⟨(Lib.decDigits o).toArray⟩ ++ ⟨#[112]⟩) ⟨(Lib.decDigits u).toArray⟩).run Tryz.prog w1 = .ok (.string ((⟨#[45]⟩ : ByteArray) ++ ⟨(Lib.decDigits o).toArray⟩ ++ ⟨#[112]⟩ ++ ⟨(Lib.decDigits u).toArray⟩)) w1 := fun w1 => run_string_add_sum w1 _ _ (by rw [ByteArray.size_append, ByteArray.size_append]; show 1 + (Lib.decDigits o).toArray.size + 1 + (Lib.decDigits u).toArray.size ≤ _; simp; omega)
        have HEQ : Hid ((⟨#[45]⟩ : ByteArray) ++ ⟨(Lib.decDigits o).toArray⟩ ++ ⟨#[112]⟩ ++ ⟨(Lib.decDigits u).toArray⟩ = tgt) := by show _ = _; rw [← HTG.out, ← end_pos _ _ _ hneg, huv]
        generalize (⟨#[45]⟩ : ByteArray) ++ ⟨(Lib.decDigits o).toArray⟩ ++ ⟨#[112]⟩ ++ ⟨(Lib.decDigits u).toArray⟩ = s3 at *
        generalize (⟨#[45]⟩ : ByteArray) ++ ⟨(Lib.decDigits o).toArray⟩ ++ ⟨#[112]⟩ = s2 at *
        generalize (⟨#[45]⟩ : ByteArray) ++ ⟨(Lib.decDigits o).toArray⟩ = s1 at *
        generalize (⟨(Lib.decDigits o).toArray⟩ : ByteArray) = d1 at *
        generalize (⟨(Lib.decDigits u).toArray⟩ : ByteArray) = d2 at *
        clear HTG hE hP hodd
        go_wp2_with fail
        refine (HD.out _).mono ?_
        rintro e w2 ⟨rfl, hb2⟩
        go_wp2_with fail
        refine (HD2.out _).mono ?_
        rintro e w3 ⟨rfl, hb3⟩
        have HB := Lib.hid (hb2.trans (hb3.mono hb2.size))
        clear hb2 hb3
        go_wp2_with fail
        go_ret
        exact ⟨by rw [← HEQ.out]; rfl, HB.out⟩
end Go.Proofs.YtmogeegcfmphgaaGreatDoor
