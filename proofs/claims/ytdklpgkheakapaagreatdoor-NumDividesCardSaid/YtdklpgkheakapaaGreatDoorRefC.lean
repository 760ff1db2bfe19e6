import Derived.Test.YtdklpgkheakapaaGreatDoorRoundB
import Derived.Test.YtdklpgkheakapaaGreatDoorRefB
import Derived.Test.YtdklpgkheakapaaGreatDoorMathH
namespace Go.Proofs.YtdklpgkheakapaaGreatDoor
open Go.RowKit

set_option maxHeartbeats 400000 in
theorem rcanon_any (a : Nat) (h : a < 18446744073709551616) (w : World) : Calls Tryz.prog 19 #[.int .u64 (a : Int)] w fun e w' => e = .returned (.int .u64 (Gn.canonW a : Int)) ∧ w' = w := by
  unfold Gn.canonW
  by_cases hn : clsN a = 0
  · rw [if_pos ((cls_nan a).1 hn)]
    have hb := nanB_t hn
    clear hn
    go_enter Tryz.func19, Tryz.ntmps19
    go_wp2_with (go_at_call 53; refine (risNaN_any _ h _).mono ?_; rintro e w' ⟨rfl, rfl⟩)
    go_ret
    exact ⟨rfl, rfl⟩
  · rw [if_neg (fun k => hn ((cls_nan a).2 k))]
    have hb := nanB_f hn
    clear hn
    go_enter Tryz.func19, Tryz.ntmps19
    go_wp2_with (go_at_call 53; refine (risNaN_any _ h _).mono ?_; rintro e w' ⟨rfl, rfl⟩)
    go_ret
    exact ⟨rfl, rfl⟩
theorem flip_nan (a : Nat) : Gn.flipW a % 9223372036854775808 = a % 9223372036854775808 := by
  unfold Gn.flipW; split <;> omega
set_option maxHeartbeats 400000 in
theorem rneg_any (a : Nat) (h : a < 18446744073709551616) (w : World) : Calls Tryz.prog 23 #[.int .u64 (a : Int)] w fun e w' => e = .returned (.int .u64 (Gn.negW a : Int)) ∧ w' = w := by
  have hf := flip_xor a h
  unfold Gn.negW Gn.canonW
  rw [flip_nan]
  by_cases hn : clsN a = 0
  · rw [if_pos ((cls_nan a).1 hn)]
    have hb := nanB_t hn
    clear hn
    go_enter Tryz.func23, Tryz.ntmps23
    go_wp2_with (go_at_call 53; refine (risNaN_any _ h _).mono ?_; rintro e w' ⟨rfl, rfl⟩)
    go_ret
    exact ⟨rfl, rfl⟩
  · rw [if_neg (fun k => hn ((cls_nan a).2 k))]
    have hb := nanB_f hn
    clear hn
    go_enter Tryz.func23, Tryz.ntmps23
    go_wp2_with (go_at_call 53; refine (risNaN_any _ h _).mono ?_; rintro e w' ⟨rfl, rfl⟩)
    go_ret
    exact ⟨rfl, rfl⟩
set_option maxHeartbeats 400000 in
theorem rabs_any (a : Nat) (h : a < 18446744073709551616) (w : World) : Calls Tryz.prog 25 #[.int .u64 (a : Int)] w fun e w' => e = .returned (.int .u64 (Gn.absW a : Int)) ∧ w' = w := by
  have hf : bits .andNot .u64 (a : Int) 9223372036854775808 = (lowW a : Int) := abs_andNot a h
  have e0 : Gn.absW a = if 9218868437227405312 < a % 9223372036854775808 then 9221120237041090561 else lowW a := by
    unfold Gn.absW Gn.canonW lowW; rw [Nat.mod_mod]
  rw [e0]
  by_cases hn : clsN a = 0
  · rw [if_pos ((cls_nan a).1 hn)]
    have hb := nanB_t hn
    clear hn e0
    go_enter Tryz.func25, Tryz.ntmps25
    go_wp2_with (go_at_call 53; refine (risNaN_any _ h _).mono ?_; rintro e w' ⟨rfl, rfl⟩)
    go_ret
    exact ⟨rfl, rfl⟩
  · rw [if_neg (fun k => hn ((cls_nan a).2 k))]
    have hb := nanB_f hn
    clear hn e0
    go_enter Tryz.func25, Tryz.ntmps25
    go_wp2_with (go_at_call 53; refine (risNaN_any _ h _).mono ?_; rintro e w' ⟨rfl, rfl⟩)
    go_ret
    exact ⟨rfl, rfl⟩
theorem rcls_cases (a : Nat) : (decide ((9218868437227405312 : Int) < (lowW a : Int)) = true ∧ clsN a = 0) ∨ (decide ((9218868437227405312 : Int) < (lowW a : Int)) = false ∧ ((lowW a : Int) == 9218868437227405312) = true ∧ clsN a = 1) ∨ (decide ((9218868437227405312 : Int) < (lowW a : Int)) = false ∧ ((lowW a : Int) == 9218868437227405312) = false ∧ ((lowW a : Int) == 0) = true ∧ clsN a = 2) ∨ (decide ((9218868437227405312 : Int) < (lowW a : Int)) = false ∧ ((lowW a : Int) == 9218868437227405312) = false ∧ ((lowW a : Int) == 0) = false ∧ decide ((lowW a : Int) < 4503599627370496) = true ∧ clsN a = 3) ∨ (decide ((9218868437227405312 : Int) < (lowW a : Int)) = false ∧ ((lowW a : Int) == 9218868437227405312) = false ∧ ((lowW a : Int) == 0) = false ∧ decide ((lowW a : Int) < 4503599627370496) = false ∧ clsN a = 4) := by
  have hc : clsN a = if 9218868437227405312 < lowW a then 0 else if lowW a = 9218868437227405312 then 1 else if lowW a = 0 then 2 else if lowW a < 4503599627370496 then 3 else 4 := rfl
  rw [hc]
  generalize lowW a = l
  by_cases h1 : 9218868437227405312 < l
  · rw [if_pos h1]; exact .inl ⟨decide_eq_true (by omega), rfl⟩
  · rw [if_neg h1]
    have b1 : decide ((9218868437227405312 : Int) < (l : Int)) = false := decide_eq_false (by omega)
    by_cases h2 : l = 9218868437227405312
    · rw [if_pos h2]; exact .inr (.inl ⟨b1, beqN_t (y := 9218868437227405312) h2, rfl⟩)
    · rw [if_neg h2]
      have b2 : ((l : Int) == 9218868437227405312) = false := beqN_f (y := 9218868437227405312) h2
      by_cases h3 : l = 0
      · rw [if_pos h3]; exact .inr (.inr (.inl ⟨b1, b2, beqN_t (y := 0) h3, rfl⟩))
      · rw [if_neg h3]
        have b3 : ((l : Int) == 0) = false := beqN_f (y := 0) h3
        by_cases h4 : l < 4503599627370496
        · rw [if_pos h4]; exact .inr (.inr (.inr (.inl ⟨b1, b2, b3, decide_eq_true (by omega), rfl⟩)))
        · rw [if_neg h4]; exact .inr (.inr (.inr (.inr ⟨b1, b2, b3, decide_eq_false (by omega), rfl⟩)))
set_option maxHeartbeats 400000 in
theorem rclass_any (a : Nat) (h : a < 18446744073709551616) (w : World) : Calls Tryz.prog 21 #[.int .u64 (a : Int)] w fun e w' => e = .returned (.int .i64 (clsN a : Int)) ∧ w' = w := by
  have hf : bits .andNot .u64 (a : Int) 9223372036854775808 = (lowW a : Int) := abs_andNot a h
  rcases rcls_cases a with ⟨h1, hc⟩ | ⟨h1, h2, hc⟩ | ⟨h1, h2, h3, hc⟩ | ⟨h1, h2, h3, h4, hc⟩ | ⟨h1, h2, h3, h4, hc⟩
  all_goals
    rw [hc]
    clear hc
    go_enter Tryz.func21, Tryz.ntmps21
    go_wp2
    go_ret
    exact ⟨rfl, rfl⟩
set_option maxHeartbeats 400000 in
theorem rmin_any (a b : Nat) (ha : a < 18446744073709551616) (hb : b < 18446744073709551616) (w : World) : Calls Tryz.prog 29 #[.int .u64 (a : Int), .int .u64 (b : Int)] w fun e w' => e = .returned (.int .u64 (minW a b : Int)) ∧ w' = w := by
  have cases_ : (nanB a = true ∧ minW a b = 9221120237041090561) ∨ (nanB a = false ∧ nanB b = true ∧ minW a b = 9221120237041090561) ∨ (nanB a = false ∧ nanB b = false ∧ ordW a b ≤ 0 ∧ minW a b = a) ∨ (nanB a = false ∧ nanB b = false ∧ 0 < ordW a b ∧ minW a b = b) := by
    unfold minW anyN
    by_cases na : clsN a = 0
    · exact .inl ⟨nanB_t na, by simp [na]⟩
    · by_cases nb : clsN b = 0
      · exact .inr (.inl ⟨nanB_f na, nanB_t nb, by simp [nb]⟩)
      · rw [show (clsN a == 0 || clsN b == 0) = false from by simp [na, nb], if_neg (by simp)]
        by_cases hr : rankW b < rankW a
        · exact .inr (.inr (.inr ⟨nanB_f na, nanB_f nb, ord_pos hr, by rw [if_pos hr]⟩))
        · exact .inr (.inr (.inl ⟨nanB_f na, nanB_f nb, by have := ord_pos' hr; omega, by rw [if_neg hr]⟩))
  rcases cases_ with ⟨h1, hm⟩ | ⟨h1, h2, hm⟩ | ⟨h1, h2, h3, hm⟩ | ⟨h1, h2, h3, hm⟩
  all_goals
    rw [hm]
    clear hm
    go_enter Tryz.func29, Tryz.ntmps29
    go_wp2_with (first | (go_at_call 53; refine (risNaN_any _ (by assumption) _).mono ?_; rintro e w' ⟨rfl, rfl⟩) | (go_at_call 37; refine (rorder_any _ _ (by assumption) (by assumption) _).mono ?_; rintro e w' ⟨rfl, rfl⟩))
    go_ret
    exact ⟨rfl, rfl⟩
set_option maxHeartbeats 400000 in
theorem rmax_any (a b : Nat) (ha : a < 18446744073709551616) (hb : b < 18446744073709551616) (w : World) : Calls Tryz.prog 31 #[.int .u64 (a : Int), .int .u64 (b : Int)] w fun e w' => e = .returned (.int .u64 (maxW a b : Int)) ∧ w' = w := by
  have cases_ : (nanB a = true ∧ maxW a b = 9221120237041090561) ∨ (nanB a = false ∧ nanB b = true ∧ maxW a b = 9221120237041090561) ∨ (nanB a = false ∧ nanB b = false ∧ 0 ≤ ordW a b ∧ maxW a b = a) ∨ (nanB a = false ∧ nanB b = false ∧ ordW a b < 0 ∧ maxW a b = b) := by
    unfold maxW anyN
    by_cases na : clsN a = 0
    · exact .inl ⟨nanB_t na, by simp [na]⟩
    · by_cases nb : clsN b = 0
      · exact .inr (.inl ⟨nanB_f na, nanB_t nb, by simp [nb]⟩)
      · rw [show (clsN a == 0 || clsN b == 0) = false from by simp [na, nb], if_neg (by simp)]
        by_cases hr : rankW a < rankW b
        · exact .inr (.inr (.inr ⟨nanB_f na, nanB_f nb, ord_neg hr, by rw [if_pos hr]⟩))
        · exact .inr (.inr (.inl ⟨nanB_f na, nanB_f nb, by have := ord_neg' hr; omega, by rw [if_neg hr]⟩))
  rcases cases_ with ⟨h1, hm⟩ | ⟨h1, h2, hm⟩ | ⟨h1, h2, h3, hm⟩ | ⟨h1, h2, h3, hm⟩
  all_goals
    rw [hm]
    clear hm
    go_enter Tryz.func31, Tryz.ntmps31
    go_wp2_with (first | (go_at_call 53; refine (risNaN_any _ (by assumption) _).mono ?_; rintro e w' ⟨rfl, rfl⟩) | (go_at_call 37; refine (rorder_any _ _ (by assumption) (by assumption) _).mono ?_; rintro e w' ⟨rfl, rfl⟩))
    go_ret
    exact ⟨rfl, rfl⟩
end Go.Proofs.YtdklpgkheakapaaGreatDoor
