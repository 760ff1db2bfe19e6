import Derived.Test.YtmogeegcfmphgaaGreatDoorTxF
namespace Go.Proofs.YtmogeegcfmphgaaGreatDoor
open Go.RowKit

set_option maxHeartbeats 400000 in
theorem rtext_nan (a : Nat) (h : a < 18446744073709551616) (c : clsN a = 0) (w : World) :
    Calls Tryz.prog 6 #[.int .u64 (a : Int)] w fun e w' => e = .returned (.string (textB a)) ∧ Below w.heap.size w w' := by
  have HN := Lib.hid (rnan_any a h)
  rw [decide_eq_true c] at HN
  rw [text_nan a c]
  clear c
  go_enter Tryz.func6, Tryz.ntmps6
  go_wp2_with fail
  refine (HN.out _).mono ?_
  rintro e w1 ⟨rfl, rfl⟩
  go_wp2_with fail
  go_ret
  exact ⟨rfl, Below.refl _ _⟩

set_option maxHeartbeats 400000 in
theorem rtextInfP (a : Nat) (h : a < 18446744073709551616) (c : clsN a = 1) (h0 : a < 9223372036854775808) (w : World) :
    Calls Tryz.prog 6 #[.int .u64 (a : Int)] w fun e w' => e = .returned (.string (sgnB a ++ amtB a)) ∧ Below w.heap.size w w' := by
  have HN := Lib.hid (rnan_any a h)
  rw [decide_eq_false (by omega)] at HN
  have HT := Lib.hid (rtaken_any a h)
  have hs : bits .and .u64 (a : Int) 9223372036854775808 = 0 := by rw [sgn_and a h, if_pos h0]; rfl
  have hsg : sgnB a = ⟨#[]⟩ := if_pos h0
  have hn := abs_andNot a h
  have hx : (((a % 9223372036854775808 : Nat) : Int) == 9218868437227405312) = true := by
    rcases cls_cases a with ⟨_, _, h3⟩ | ⟨h1, h2, h3⟩ | ⟨_, _, h3⟩ | ⟨_, _, h3⟩ | ⟨_, _, h3⟩
    · omega
    · rw [beq_iff_eq]; unfold fx at h1; unfold fm at h2; omega
    · omega
    · omega
    · omega
  have hamt : amtB a = ⟨#[105, 110, 102]⟩ := by unfold amtB; rw [if_neg (by omega), if_pos c]
  have hadd : ∀ w1 : World, (Op.stringOp .add ⟨#[]⟩ ⟨#[105, 110, 102]⟩).run Tryz.prog w1 = .ok (.string ((⟨#[]⟩ : ByteArray) ++ ⟨#[105, 110, 102]⟩)) w1 := fun w1 => run_string_add_sum w1 _ _ (by decide)
  rw [hamt, hsg]
  clear hamt hsg c h0
  generalize (⟨#[]⟩ : ByteArray) ++ ⟨#[105, 110, 102]⟩ = t at *
  generalize a % 9223372036854775808 = x at *
  generalize tM a = M at *
  generalize tE a = E at *
  go_enter Tryz.func6, Tryz.ntmps6
  go_wp2_with fail
  refine (HN.out _).mono ?_
  rintro e w1 ⟨rfl, rfl⟩
  go_wp2_with fail
  refine (HT.out _).mono ?_
  rintro e w1 ⟨rfl, rfl⟩
  go_wp2_with fail
  go_ret
  exact ⟨rfl, Below.refl _ _⟩

set_option maxHeartbeats 400000 in
theorem rtextInfN (a : Nat) (h : a < 18446744073709551616) (c : clsN a = 1) (h0 : ¬ a < 9223372036854775808) (w : World) :
    Calls Tryz.prog 6 #[.int .u64 (a : Int)] w fun e w' => e = .returned (.string (sgnB a ++ amtB a)) ∧ Below w.heap.size w w' := by
  have HN := Lib.hid (rnan_any a h)
  rw [decide_eq_false (by omega)] at HN
  have HT := Lib.hid (rtaken_any a h)
  have hs : bits .and .u64 (a : Int) 9223372036854775808 = 9223372036854775808 := by rw [sgn_and a h, if_neg h0]; rfl
  have hsg : sgnB a = ⟨#[45]⟩ := if_neg h0
  have hn := abs_andNot a h
  have hx : (((a % 9223372036854775808 : Nat) : Int) == 9218868437227405312) = true := by
    rcases cls_cases a with ⟨_, _, h3⟩ | ⟨h1, h2, h3⟩ | ⟨_, _, h3⟩ | ⟨_, _, h3⟩ | ⟨_, _, h3⟩
    · omega
    · rw [beq_iff_eq]; unfold fx at h1; unfold fm at h2; omega
    · omega
    · omega
    · omega
  have hamt : amtB a = ⟨#[105, 110, 102]⟩ := by unfold amtB; rw [if_neg (by omega), if_pos c]
  have hadd : ∀ w1 : World, (Op.stringOp .add ⟨#[45]⟩ ⟨#[105, 110, 102]⟩).run Tryz.prog w1 = .ok (.string ((⟨#[45]⟩ : ByteArray) ++ ⟨#[105, 110, 102]⟩)) w1 := fun w1 => run_string_add_sum w1 _ _ (by decide)
  rw [hamt, hsg]
  clear hamt hsg c h0
  generalize (⟨#[45]⟩ : ByteArray) ++ ⟨#[105, 110, 102]⟩ = t at *
  generalize a % 9223372036854775808 = x at *
  generalize tM a = M at *
  generalize tE a = E at *
  go_enter Tryz.func6, Tryz.ntmps6
  go_wp2_with fail
  refine (HN.out _).mono ?_
  rintro e w1 ⟨rfl, rfl⟩
  go_wp2_with fail
  refine (HT.out _).mono ?_
  rintro e w1 ⟨rfl, rfl⟩
  go_wp2_with fail
  go_ret
  exact ⟨rfl, Below.refl _ _⟩

set_option maxHeartbeats 400000 in
theorem rtextZeroP (a : Nat) (h : a < 18446744073709551616) (c : clsN a = 2) (h0 : a < 9223372036854775808) (w : World) :
    Calls Tryz.prog 6 #[.int .u64 (a : Int)] w fun e w' => e = .returned (.string (sgnB a ++ amtB a)) ∧ Below w.heap.size w w' := by
  have HN := Lib.hid (rnan_any a h)
  rw [decide_eq_false (by omega)] at HN
  have HT := Lib.hid (rtaken_any a h)
  have hs : bits .and .u64 (a : Int) 9223372036854775808 = 0 := by rw [sgn_and a h, if_pos h0]; rfl
  have hsg : sgnB a = ⟨#[]⟩ := if_pos h0
  have hn := abs_andNot a h
  have hx : (((a % 9223372036854775808 : Nat) : Int) == 9218868437227405312) = false := by
    rcases cls_cases a with ⟨_, _, h3⟩ | ⟨_, _, h3⟩ | ⟨h1, h2, h3⟩ | ⟨_, _, h3⟩ | ⟨_, _, h3⟩
    · omega
    · omega
    · rw [beq_eq_false_iff_ne]; unfold fx at h1; unfold fm at h2; omega
    · omega
    · omega
  have hM : tM a = 0 := by
    rcases cls_cases a with ⟨_, _, h3⟩ | ⟨_, _, h3⟩ | ⟨h1, h2, h3⟩ | ⟨_, _, h3⟩ | ⟨_, _, h3⟩
    · omega
    · omega
    · unfold tM; rw [if_pos h1]; exact h2
    · omega
    · omega
  rw [hM] at HT
  have hamt : amtB a = ⟨#[48]⟩ := by unfold amtB; rw [if_neg (by omega), if_neg (by omega), if_pos c]
  have hadd : ∀ w1 : World, (Op.stringOp .add ⟨#[]⟩ ⟨#[48]⟩).run Tryz.prog w1 = .ok (.string ((⟨#[]⟩ : ByteArray) ++ ⟨#[48]⟩)) w1 := fun w1 => run_string_add_sum w1 _ _ (by decide)
  rw [hamt, hsg]
  clear hamt hsg c h0
  generalize (⟨#[]⟩ : ByteArray) ++ ⟨#[48]⟩ = t at *
  generalize a % 9223372036854775808 = x at *
  generalize tE a = E at *
  go_enter Tryz.func6, Tryz.ntmps6
  go_wp2_with fail
  refine (HN.out _).mono ?_
  rintro e w1 ⟨rfl, rfl⟩
  go_wp2_with fail
  refine (HT.out _).mono ?_
  rintro e w1 ⟨rfl, rfl⟩
  go_wp2_with fail
  go_ret
  exact ⟨rfl, Below.refl _ _⟩

set_option maxHeartbeats 400000 in
theorem rtextZeroN (a : Nat) (h : a < 18446744073709551616) (c : clsN a = 2) (h0 : ¬ a < 9223372036854775808) (w : World) :
    Calls Tryz.prog 6 #[.int .u64 (a : Int)] w fun e w' => e = .returned (.string (sgnB a ++ amtB a)) ∧ Below w.heap.size w w' := by
  have HN := Lib.hid (rnan_any a h)
  rw [decide_eq_false (by omega)] at HN
  have HT := Lib.hid (rtaken_any a h)
  have hs : bits .and .u64 (a : Int) 9223372036854775808 = 9223372036854775808 := by rw [sgn_and a h, if_neg h0]; rfl
  have hsg : sgnB a = ⟨#[45]⟩ := if_neg h0
  have hn := abs_andNot a h
  have hx : (((a % 9223372036854775808 : Nat) : Int) == 9218868437227405312) = false := by
    rcases cls_cases a with ⟨_, _, h3⟩ | ⟨_, _, h3⟩ | ⟨h1, h2, h3⟩ | ⟨_, _, h3⟩ | ⟨_, _, h3⟩
    · omega
    · omega
    · rw [beq_eq_false_iff_ne]; unfold fx at h1; unfold fm at h2; omega
    · omega
    · omega
  have hM : tM a = 0 := by
    rcases cls_cases a with ⟨_, _, h3⟩ | ⟨_, _, h3⟩ | ⟨h1, h2, h3⟩ | ⟨_, _, h3⟩ | ⟨_, _, h3⟩
    · omega
    · omega
    · unfold tM; rw [if_pos h1]; exact h2
    · omega
    · omega
  rw [hM] at HT
  have hamt : amtB a = ⟨#[48]⟩ := by unfold amtB; rw [if_neg (by omega), if_neg (by omega), if_pos c]
  have hadd : ∀ w1 : World, (Op.stringOp .add ⟨#[45]⟩ ⟨#[48]⟩).run Tryz.prog w1 = .ok (.string ((⟨#[45]⟩ : ByteArray) ++ ⟨#[48]⟩)) w1 := fun w1 => run_string_add_sum w1 _ _ (by decide)
  rw [hamt, hsg]
  clear hamt hsg c h0
  generalize (⟨#[45]⟩ : ByteArray) ++ ⟨#[48]⟩ = t at *
  generalize a % 9223372036854775808 = x at *
  generalize tE a = E at *
  go_enter Tryz.func6, Tryz.ntmps6
  go_wp2_with fail
  refine (HN.out _).mono ?_
  rintro e w1 ⟨rfl, rfl⟩
  go_wp2_with fail
  refine (HT.out _).mono ?_
  rintro e w1 ⟨rfl, rfl⟩
  go_wp2_with fail
  go_ret
  exact ⟨rfl, Below.refl _ _⟩

theorem rtext_any (a : Nat) (h : a < 18446744073709551616) (w : World) :
    Calls Tryz.prog 6 #[.int .u64 (a : Int)] w fun e w' => e = .returned (.string (textB a)) ∧ Below w.heap.size w w' := by
  by_cases c0 : clsN a = 0
  · exact rtext_nan a h c0 w
  rw [text_not a c0]
  by_cases h0 : a < 9223372036854775808
  · by_cases c1 : clsN a = 1
    · exact rtextInfP a h c1 h0 w
    by_cases c2 : clsN a = 2
    · exact rtextZeroP a h c2 h0 w
    exact rtext_finP a h (by omega) h0 w
  · by_cases c1 : clsN a = 1
    · exact rtextInfN a h c1 h0 w
    by_cases c2 : clsN a = 2
    · exact rtextZeroN a h c2 h0 w
    exact rtext_finN a h (by omega) h0 w
end Go.Proofs.YtmogeegcfmphgaaGreatDoor
