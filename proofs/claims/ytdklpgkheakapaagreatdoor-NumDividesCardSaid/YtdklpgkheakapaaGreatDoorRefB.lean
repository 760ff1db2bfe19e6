import Derived.Test.YtdklpgkheakapaaGreatDoorRefA
namespace Go.Proofs.YtdklpgkheakapaaGreatDoor
open Go.RowKit

theorem rank_inj' {a b : Nat} (ha : a < 18446744073709551616) (hb : b < 18446744073709551616) (na : clsN a ≠ 0) (nb : clsN b ≠ 0) (h : rankW a = rankW b) : a = b := by
  rw [rank_num na, rank_num nb] at h
  by_cases h1 : a < 9223372036854775808
  · by_cases h2 : b < 9223372036854775808
    · rw [if_pos h1, if_pos h2] at h; omega
    · rw [if_pos h1, if_neg h2] at h; omega
  · by_cases h2 : b < 9223372036854775808
    · rw [if_neg h1, if_pos h2] at h; omega
    · rw [if_neg h1, if_neg h2] at h; omega
theorem low_zero (a : Nat) : lowW a = 0 ↔ clsN a = 2 := by
  unfold lowW clsN
  by_cases h1 : 9218868437227405312 < a % 9223372036854775808
  · rw [if_pos h1]; omega
  · rw [if_neg h1]
    by_cases h2 : a % 9223372036854775808 = 9218868437227405312
    · rw [if_pos h2]; omega
    · rw [if_neg h2]
      by_cases h3 : a % 9223372036854775808 = 0
      · rw [if_pos h3]; omega
      · rw [if_neg h3]; split <;> omega
theorem eq_is (a b : Nat) (ha : a < 18446744073709551616) (hb : b < 18446744073709551616) (na : clsN a ≠ 0) (nb : clsN b ≠ 0) : eqW a b = (decide (a = b) || (decide (lowW a = 0) && decide (lowW b = 0))) := by
  rw [(lt_rank a b ha hb na nb).2]
  have e1 : decide (rankW a = rankW b) = decide (a = b) := by
    by_cases h : a = b
    · subst h; simp
    · have : rankW a ≠ rankW b := fun k => h (rank_inj' ha hb na nb k)
      simp [h, this]
  have e2 : bothZ a b = (decide (lowW a = 0) && decide (lowW b = 0)) := by
    unfold bothZ; rw [Bool.eq_iff_iff]; simp [low_zero]
  rw [e1, e2]

set_option maxHeartbeats 400000 in
theorem requal_any (a b : Nat) (ha : a < 18446744073709551616) (hb : b < 18446744073709551616) (w : World) : Calls Tryz.prog 35 #[.int .u64 (a : Int), .int .u64 (b : Int)] w fun e w' => e = .returned (.bool (eqW a b)) ∧ w' = w := by
  have fa : bits .andNot .u64 (a : Int) 9223372036854775808 = (lowW a : Int) := abs_andNot a ha
  have fb : bits .andNot .u64 (b : Int) 9223372036854775808 = (lowW b : Int) := abs_andNot b hb
  by_cases na : clsN a = 0
  · rw [(lt_nan a b ha hb (.inl na)).2]
    have n1 := nanB_t na
    clear na
    go_enter Tryz.func35, Tryz.ntmps35
    go_wp2_with (go_at_call 53; refine (risNaN_any _ (by assumption) _).mono ?_; rintro e w' ⟨rfl, rfl⟩)
    go_ret
    exact ⟨rfl, rfl⟩
  · by_cases nb : clsN b = 0
    · rw [(lt_nan a b ha hb (.inr nb)).2]
      have n1 := nanB_f na
      have n2 := nanB_t nb
      clear na nb
      go_enter Tryz.func35, Tryz.ntmps35
      go_wp2_with (go_at_call 53; refine (risNaN_any _ (by assumption) _).mono ?_; rintro e w' ⟨rfl, rfl⟩)
      go_ret
      exact ⟨rfl, rfl⟩
    · rw [eq_is a b ha hb na nb]
      have n1 := nanB_f na
      have n2 := nanB_f nb
      clear na nb
      by_cases h1 : a = b
      · subst h1
        rw [show (decide (a = a) || (decide (lowW a = 0) && decide (lowW a = 0))) = true from by simp]
        go_enter Tryz.func35, Tryz.ntmps35
        go_wp2_with (go_at_call 53; refine (risNaN_any _ (by assumption) _).mono ?_; rintro e w' ⟨rfl, rfl⟩)
        go_ret
        exact ⟨rfl, rfl⟩
      · have hne : ((a : Int) == (b : Int)) = false := beqN_f h1
        by_cases h2 : lowW a = 0
        · have z1 : ((lowW a : Int) == 0) = true := beqN_t (y := 0) h2
          by_cases h3 : lowW b = 0
          · have z2 : ((lowW b : Int) == 0) = true := beqN_t (y := 0) h3
            rw [show (decide (a = b) || (decide (lowW a = 0) && decide (lowW b = 0))) = true from by simp [h2, h3]]
            clear h1 h2 h3
            go_enter Tryz.func35, Tryz.ntmps35
            go_wp2_with (go_at_call 53; refine (risNaN_any _ (by assumption) _).mono ?_; rintro e w' ⟨rfl, rfl⟩)
            go_ret
            exact ⟨rfl, rfl⟩
          · have z2 : ((lowW b : Int) == 0) = false := beqN_f (y := 0) h3
            rw [show (decide (a = b) || (decide (lowW a = 0) && decide (lowW b = 0))) = false from by simp [h1, h3]]
            clear h1 h2 h3
            go_enter Tryz.func35, Tryz.ntmps35
            go_wp2_with (go_at_call 53; refine (risNaN_any _ (by assumption) _).mono ?_; rintro e w' ⟨rfl, rfl⟩)
            go_ret
            exact ⟨rfl, rfl⟩
        · have z1 : ((lowW a : Int) == 0) = false := beqN_f (y := 0) h2
          rw [show (decide (a = b) || (decide (lowW a = 0) && decide (lowW b = 0))) = false from by simp [h1, h2]]
          clear h1 h2
          go_enter Tryz.func35, Tryz.ntmps35
          go_wp2_with (go_at_call 53; refine (risNaN_any _ (by assumption) _).mono ?_; rintro e w' ⟨rfl, rfl⟩)
          go_ret
          exact ⟨rfl, rfl⟩

theorem lt_is (a b : Nat) (ha : a < 18446744073709551616) (hb : b < 18446744073709551616) (na : clsN a ≠ 0) (nb : clsN b ≠ 0) : ltW a b = (!eqW a b && decide (ordW a b < 0)) := by
  obtain ⟨h1, h2⟩ := lt_rank a b ha hb na nb
  rw [h1, h2]
  have e : decide (ordW a b < 0) = decide (rankW a < rankW b) := by
    by_cases h : rankW a < rankW b
    · simp [h, ord_neg h]
    · have := ord_neg' h; simp only [h, this]
  rw [e]
  by_cases h : rankW a < rankW b
  · have : rankW a ≠ rankW b := by omega
    simp [h, this]
  · simp [h]
set_option maxHeartbeats 400000 in
theorem rless_any (a b : Nat) (ha : a < 18446744073709551616) (hb : b < 18446744073709551616) (w : World) : Calls Tryz.prog 33 #[.int .u64 (a : Int), .int .u64 (b : Int)] w fun e w' => e = .returned (.bool (ltW a b)) ∧ w' = w := by
  by_cases na : clsN a = 0
  · rw [(lt_nan a b ha hb (.inl na)).1]
    have n1 := nanB_t na
    clear na
    go_enter Tryz.func33, Tryz.ntmps33
    go_wp2_with (go_at_call 53; refine (risNaN_any _ (by assumption) _).mono ?_; rintro e w' ⟨rfl, rfl⟩)
    go_ret
    exact ⟨rfl, rfl⟩
  · by_cases nb : clsN b = 0
    · rw [(lt_nan a b ha hb (.inr nb)).1]
      have n1 := nanB_f na
      have n2 := nanB_t nb
      clear na nb
      go_enter Tryz.func33, Tryz.ntmps33
      go_wp2_with (go_at_call 53; refine (risNaN_any _ (by assumption) _).mono ?_; rintro e w' ⟨rfl, rfl⟩)
      go_ret
      exact ⟨rfl, rfl⟩
    · have hl := lt_is a b ha hb na nb
      have n1 := nanB_f na
      have n2 := nanB_f nb
      clear na nb
      cases he : eqW a b
      · rw [he] at hl
        by_cases ho : ordW a b < 0
        · rw [hl, show (!false && decide (ordW a b < 0)) = true from by simp [ho]]
          clear hl
          go_enter Tryz.func33, Tryz.ntmps33
          go_wp2_with (first | (go_at_call 53; refine (risNaN_any _ (by assumption) _).mono ?_; rintro e w' ⟨rfl, rfl⟩) | (go_at_call 35; refine (requal_any _ _ (by assumption) (by assumption) _).mono ?_; rintro e w' ⟨rfl, rfl⟩) | (go_at_call 37; refine (rorder_any _ _ (by assumption) (by assumption) _).mono ?_; rintro e w' ⟨rfl, rfl⟩))
          go_ret
          exact ⟨by first | rfl | (simp; done) | simp_all, rfl⟩
        · rw [hl, show (!false && decide (ordW a b < 0)) = false from by simp [ho]]
          clear hl
          go_enter Tryz.func33, Tryz.ntmps33
          go_wp2_with (first | (go_at_call 53; refine (risNaN_any _ (by assumption) _).mono ?_; rintro e w' ⟨rfl, rfl⟩) | (go_at_call 35; refine (requal_any _ _ (by assumption) (by assumption) _).mono ?_; rintro e w' ⟨rfl, rfl⟩) | (go_at_call 37; refine (rorder_any _ _ (by assumption) (by assumption) _).mono ?_; rintro e w' ⟨rfl, rfl⟩))
          go_ret
          exact ⟨by first | rfl | (simp; done) | simp_all, rfl⟩
      · rw [he] at hl
        rw [hl, show (!true && decide (ordW a b < 0)) = false from by simp]
        clear hl
        go_enter Tryz.func33, Tryz.ntmps33
        go_wp2_with (first | (go_at_call 53; refine (risNaN_any _ (by assumption) _).mono ?_; rintro e w' ⟨rfl, rfl⟩) | (go_at_call 35; refine (requal_any _ _ (by assumption) (by assumption) _).mono ?_; rintro e w' ⟨rfl, rfl⟩) | (go_at_call 37; refine (rorder_any _ _ (by assumption) (by assumption) _).mono ?_; rintro e w' ⟨rfl, rfl⟩))
        go_ret
        exact ⟨rfl, rfl⟩
end Go.Proofs.YtdklpgkheakapaaGreatDoor
