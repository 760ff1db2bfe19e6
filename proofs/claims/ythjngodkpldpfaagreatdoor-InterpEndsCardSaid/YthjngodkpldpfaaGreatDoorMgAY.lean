import Derived.Test.YthjngodkpldpfaaGreatDoorMgAD
import Derived.Test.YthjngodkpldpfaaGreatDoorMgAG
import Derived.Test.YthjngodkpldpfaaGreatDoorMgAC

section
namespace Go.Proofs.YthjngodkpldpfaaGreatDoor
open Go.RowKit

def nanB (a : Nat) : Bool := decide (9218868437227405312 < lowW a)
theorem nanB_t {a : Nat} (h : clsN a = 0) : nanB a = true := by unfold nanB; exact decide_eq_true ((cls_nan a).1 h)
theorem nanB_f {a : Nat} (h : clsN a ≠ 0) : nanB a = false := by unfold nanB; exact decide_eq_false (fun k => h ((cls_nan a).2 k))
set_option maxHeartbeats 400000 in
theorem risNaN_any (a : Nat) (h : a < 18446744073709551616) (w : World) : Calls Tryz.prog 35 #[.int .u64 (a : Int)] w fun e w' => e = .returned (.bool (nanB a)) ∧ w' = w := by
  have hf : bits .andNot .u64 (a : Int) 9223372036854775808 = (lowW a : Int) := abs_andNot a h
  by_cases hn : 9218868437227405312 < lowW a
  · rw [show nanB a = true from decide_eq_true hn]
    go_enter Tryz.func35, Tryz.ntmps35
    go_wp2
    go_ret
    exact ⟨congrArg (fun b => Ending.returned (.bool b)) (by simp; omega), rfl⟩
  · rw [show nanB a = false from decide_eq_false hn]
    go_enter Tryz.func35, Tryz.ntmps35
    go_wp2
    go_ret
    exact ⟨congrArg (fun b => Ending.returned (.bool b)) (by simp; omega), rfl⟩
def rrankW (a : Nat) : Nat := if nanB a then 18442240474082181121 else rankW a
theorem rank_num {a : Nat} (h : clsN a ≠ 0) : rankW a = if a < 9223372036854775808 then a + 9223372036854775808 else 18446744073709551615 - a := by
  unfold rankW
  have : Gn.canonW a = a := by unfold Gn.canonW; rw [if_neg (fun k => h ((cls_nan a).2 k))]
  rw [this]
set_option maxHeartbeats 400000 in
theorem rrank_any (a : Nat) (h : a < 18446744073709551616) (w : World) : Calls Tryz.prog 103 #[.int .u64 (a : Int)] w fun e w' => e = .returned (.int .u64 (rrankW a : Int)) ∧ w' = w := by
  unfold rrankW
  by_cases hn : clsN a = 0
  · have hb := nanB_t hn
    rw [hb, if_pos rfl]
    clear hn
    go_enter Tryz.func103, Tryz.ntmps103
    go_wp2_with (go_at_call 35; refine (risNaN_any _ h _).mono ?_; rintro e w' ⟨rfl, rfl⟩)
    go_ret
    exact ⟨rfl, rfl⟩
  · have hb := nanB_f hn
    rw [hb, if_neg (by simp), rank_num hn]
    clear hn
    have ha := top_and a h
    by_cases hc : a < 9223372036854775808
    · rw [if_pos hc] at *
      have ho := top_or a hc
      generalize a + 9223372036854775808 = r at *
      go_enter Tryz.func103, Tryz.ntmps103
      go_wp2_with (go_at_call 35; refine (risNaN_any _ h _).mono ?_; rintro e w' ⟨rfl, rfl⟩)
      go_ret
      exact ⟨rfl, rfl⟩
    · rw [if_neg hc] at *
      have ho := not_u64 a h
      have hsg : IntKind.u64.signed = false := rfl
      generalize 18446744073709551615 - a = r at *
      go_enter Tryz.func103, Tryz.ntmps103
      go_wp2_with (go_at_call 35; refine (risNaN_any _ h _).mono ?_; rintro e w' ⟨rfl, rfl⟩)
      go_ret
      exact ⟨rfl, rfl⟩

theorem rank_lt_nan {a b : Nat} (ha : a < 18446744073709551616) (na : clsN a ≠ 0) (nb : clsN b = 0) : rankW a < rankW b := by
  obtain ⟨s, r, hr, rfl⟩ := num_wd a ha na
  have hb : rankW b = 18444492273895866369 := by
    unfold rankW
    have : Gn.canonW b = 9221120237041090561 := by unfold Gn.canonW; rw [if_pos ((cls_nan b).1 nb)]
    rw [this]; rfl
  rw [hb]
  cases s
  · rw [rank_f hr]; omega
  · rw [rank_t hr]; omega
theorem rank_nn {a b : Nat} (na : clsN a = 0) (nb : clsN b = 0) : rankW a = rankW b := by
  unfold rankW
  have e1 : Gn.canonW b = 9221120237041090561 := by unfold Gn.canonW; rw [if_pos ((cls_nan b).1 nb)]
  have e2 : Gn.canonW a = 9221120237041090561 := by unfold Gn.canonW; rw [if_pos ((cls_nan a).1 na)]
  rw [e1, e2]
theorem rank_num_lt {a : Nat} (ha : a < 18446744073709551616) (na : clsN a ≠ 0) : rankW a < 18442240474082181121 := by
  obtain ⟨s, r, hr, rfl⟩ := num_wd a ha na
  cases s
  · rw [rank_f hr]; omega
  · rw [rank_t hr]; omega
theorem rrank_cmp {a b : Nat} (ha : a < 18446744073709551616) (hb : b < 18446744073709551616) : cmpW (rrankW a) (rrankW b) = ordW a b := by
  unfold ordW
  by_cases na : clsN a = 0
  · by_cases nb : clsN b = 0
    · unfold rrankW; rw [nanB_t na, nanB_t nb, if_pos rfl, if_pos rfl, rank_nn na nb]; unfold cmpW; simp
    · unfold rrankW; rw [nanB_t na, nanB_f nb, if_pos rfl, if_neg (by simp)]
      have h1 := rank_num_lt hb nb
      have h2 := rank_lt_nan hb nb na
      unfold cmpW; rw [if_neg (by omega), if_pos h1, if_neg (by omega), if_pos h2]
  · by_cases nb : clsN b = 0
    · unfold rrankW; rw [nanB_f na, nanB_t nb, if_pos rfl, if_neg (by simp)]
      have h1 := rank_num_lt ha na
      have h2 := rank_lt_nan ha na nb
      unfold cmpW; rw [if_pos h1, if_pos h2]
    · unfold rrankW; rw [nanB_f na, nanB_f nb, if_neg (by simp), if_neg (by simp)]
set_option maxHeartbeats 400000 in
theorem rorder_any (a b : Nat) (ha : a < 18446744073709551616) (hb : b < 18446744073709551616) (w : World) : Calls Tryz.prog 60 #[.int .u64 (a : Int), .int .u64 (b : Int)] w fun e w' => e = .returned (.int .i64 (ordW a b)) ∧ w' = w := by
  rw [← rrank_cmp ha hb]
  unfold cmpW
  by_cases h1 : rrankW a < rrankW b
  · rw [if_pos h1]
    go_enter Tryz.func60, Tryz.ntmps60
    go_wp2_with (go_at_call 103; refine (rrank_any _ (by assumption) _).mono ?_; rintro e w' ⟨rfl, rfl⟩)
    go_ret
    exact ⟨rfl, rfl⟩
  · rw [if_neg h1]
    by_cases h2 : rrankW b < rrankW a
    · rw [if_pos h2]
      go_enter Tryz.func60, Tryz.ntmps60
      go_wp2_with (go_at_call 103; refine (rrank_any _ (by assumption) _).mono ?_; rintro e w' ⟨rfl, rfl⟩)
      go_ret
      exact ⟨rfl, rfl⟩
    · rw [if_neg h2]
      go_enter Tryz.func60, Tryz.ntmps60
      go_wp2_with (go_at_call 103; refine (rrank_any _ (by assumption) _).mono ?_; rintro e w' ⟨rfl, rfl⟩)
      go_ret
      exact ⟨rfl, rfl⟩
end Go.Proofs.YthjngodkpldpfaaGreatDoor
end

section
namespace Go.Proofs.YthjngodkpldpfaaGreatDoor
open Go.RowKit

theorem rank_inj' {a b : Nat} (ha : a < 18446744073709551616) (hb : b < 18446744073709551616) (na : clsN a ≠ 0) (nb : clsN b ≠ 0) (h : rankW a = rankW b) : a = b := by
  rw [rank_num na, rank_num nb] at h
  by_cases h1 : a < 9223372036854775808
  · by_cases h2 : b < 9223372036854775808
    · rw [if_pos h1, if_pos h2] at h; omega
    · rw [if_pos h1, if_neg h2] at h; omega
  · by_cases h2 : b < 9223372036854775808
    · rw [if_neg h1, if_pos h2] at h; omega
    · rw [if_neg h1, if_neg h2] at h; omega
theorem low_zero (a : Nat) : lowW a = 0 ↔ clsN a = 2 := by
  unfold lowW clsN
  by_cases h1 : 9218868437227405312 < a % 9223372036854775808
  · rw [if_pos h1]; omega
  · rw [if_neg h1]
    by_cases h2 : a % 9223372036854775808 = 9218868437227405312
    · rw [if_pos h2]; omega
    · rw [if_neg h2]
      by_cases h3 : a % 9223372036854775808 = 0
      · rw [if_pos h3]; omega
      · rw [if_neg h3]; split <;> omega
theorem eq_is (a b : Nat) (ha : a < 18446744073709551616) (hb : b < 18446744073709551616) (na : clsN a ≠ 0) (nb : clsN b ≠ 0) : eqW a b = (decide (a = b) || (decide (lowW a = 0) && decide (lowW b = 0))) := by
  rw [(lt_rank a b ha hb na nb).2]
  have e1 : decide (rankW a = rankW b) = decide (a = b) := by
    by_cases h : a = b
    · subst h; simp
    · have : rankW a ≠ rankW b := fun k => h (rank_inj' ha hb na nb k)
      simp [h, this]
  have e2 : bothZ a b = (decide (lowW a = 0) && decide (lowW b = 0)) := by
    unfold bothZ; rw [Bool.eq_iff_iff]; simp [low_zero]
  rw [e1, e2]

set_option maxHeartbeats 400000 in
theorem requal_any (a b : Nat) (ha : a < 18446744073709551616) (hb : b < 18446744073709551616) (w : World) : Calls Tryz.prog 102 #[.int .u64 (a : Int), .int .u64 (b : Int)] w fun e w' => e = .returned (.bool (eqW a b)) ∧ w' = w := by
  have fa : bits .andNot .u64 (a : Int) 9223372036854775808 = (lowW a : Int) := abs_andNot a ha
  have fb : bits .andNot .u64 (b : Int) 9223372036854775808 = (lowW b : Int) := abs_andNot b hb
  by_cases na : clsN a = 0
  · rw [(lt_nan a b ha hb (.inl na)).2]
    have n1 := nanB_t na
    clear na
    go_enter Tryz.func102, Tryz.ntmps102
    go_wp2_with (go_at_call 35; refine (risNaN_any _ (by assumption) _).mono ?_; rintro e w' ⟨rfl, rfl⟩)
    go_ret
    exact ⟨rfl, rfl⟩
  · by_cases nb : clsN b = 0
    · rw [(lt_nan a b ha hb (.inr nb)).2]
      have n1 := nanB_f na
      have n2 := nanB_t nb
      clear na nb
      go_enter Tryz.func102, Tryz.ntmps102
      go_wp2_with (go_at_call 35; refine (risNaN_any _ (by assumption) _).mono ?_; rintro e w' ⟨rfl, rfl⟩)
      go_ret
      exact ⟨rfl, rfl⟩
    · rw [eq_is a b ha hb na nb]
      have n1 := nanB_f na
      have n2 := nanB_f nb
      clear na nb
      by_cases h1 : a = b
      · subst h1
        rw [show (decide (a = a) || (decide (lowW a = 0) && decide (lowW a = 0))) = true from by simp]
        go_enter Tryz.func102, Tryz.ntmps102
        go_wp2_with (go_at_call 35; refine (risNaN_any _ (by assumption) _).mono ?_; rintro e w' ⟨rfl, rfl⟩)
        go_ret
        exact ⟨rfl, rfl⟩
      · have hne : ((a : Int) == (b : Int)) = false := beqN_f h1
        by_cases h2 : lowW a = 0
        · have z1 : ((lowW a : Int) == 0) = true := beqN_t (y := 0) h2
          by_cases h3 : lowW b = 0
          · have z2 : ((lowW b : Int) == 0) = true := beqN_t (y := 0) h3
            rw [show (decide (a = b) || (decide (lowW a = 0) && decide (lowW b = 0))) = true from by simp [h2, h3]]
            clear h1 h2 h3
            go_enter Tryz.func102, Tryz.ntmps102
            go_wp2_with (go_at_call 35; refine (risNaN_any _ (by assumption) _).mono ?_; rintro e w' ⟨rfl, rfl⟩)
            go_ret
            exact ⟨rfl, rfl⟩
          · have z2 : ((lowW b : Int) == 0) = false := beqN_f (y := 0) h3
            rw [show (decide (a = b) || (decide (lowW a = 0) && decide (lowW b = 0))) = false from by simp [h1, h3]]
            clear h1 h2 h3
            go_enter Tryz.func102, Tryz.ntmps102
            go_wp2_with (go_at_call 35; refine (risNaN_any _ (by assumption) _).mono ?_; rintro e w' ⟨rfl, rfl⟩)
            go_ret
            exact ⟨rfl, rfl⟩
        · have z1 : ((lowW a : Int) == 0) = false := beqN_f (y := 0) h2
          rw [show (decide (a = b) || (decide (lowW a = 0) && decide (lowW b = 0))) = false from by simp [h1, h2]]
          clear h1 h2
          go_enter Tryz.func102, Tryz.ntmps102
          go_wp2_with (go_at_call 35; refine (risNaN_any _ (by assumption) _).mono ?_; rintro e w' ⟨rfl, rfl⟩)
          go_ret
          exact ⟨rfl, rfl⟩

theorem lt_is (a b : Nat) (ha : a < 18446744073709551616) (hb : b < 18446744073709551616) (na : clsN a ≠ 0) (nb : clsN b ≠ 0) : ltW a b = (!eqW a b && decide (ordW a b < 0)) := by
  obtain ⟨h1, h2⟩ := lt_rank a b ha hb na nb
  rw [h1, h2]
  have e : decide (ordW a b < 0) = decide (rankW a < rankW b) := by
    by_cases h : rankW a < rankW b
    · simp [h, ord_neg h]
    · have := ord_neg' h; simp only [h, this]
  rw [e]
  by_cases h : rankW a < rankW b
  · have : rankW a ≠ rankW b := by omega
    simp [h, this]
  · simp [h]
set_option maxHeartbeats 400000 in
theorem rless_any (a b : Nat) (ha : a < 18446744073709551616) (hb : b < 18446744073709551616) (w : World) : Calls Tryz.prog 58 #[.int .u64 (a : Int), .int .u64 (b : Int)] w fun e w' => e = .returned (.bool (ltW a b)) ∧ w' = w := by
  by_cases na : clsN a = 0
  · rw [(lt_nan a b ha hb (.inl na)).1]
    have n1 := nanB_t na
    clear na
    go_enter Tryz.func58, Tryz.ntmps58
    go_wp2_with (go_at_call 35; refine (risNaN_any _ (by assumption) _).mono ?_; rintro e w' ⟨rfl, rfl⟩)
    go_ret
    exact ⟨rfl, rfl⟩
  · by_cases nb : clsN b = 0
    · rw [(lt_nan a b ha hb (.inr nb)).1]
      have n1 := nanB_f na
      have n2 := nanB_t nb
      clear na nb
      go_enter Tryz.func58, Tryz.ntmps58
      go_wp2_with (go_at_call 35; refine (risNaN_any _ (by assumption) _).mono ?_; rintro e w' ⟨rfl, rfl⟩)
      go_ret
      exact ⟨rfl, rfl⟩
    · have hl := lt_is a b ha hb na nb
      have n1 := nanB_f na
      have n2 := nanB_f nb
      clear na nb
      cases he : eqW a b
      · rw [he] at hl
        by_cases ho : ordW a b < 0
        · rw [hl, show (!false && decide (ordW a b < 0)) = true from by simp [ho]]
          clear hl
          go_enter Tryz.func58, Tryz.ntmps58
          go_wp2_with (first | (go_at_call 35; refine (risNaN_any _ (by assumption) _).mono ?_; rintro e w' ⟨rfl, rfl⟩) | (go_at_call 102; refine (requal_any _ _ (by assumption) (by assumption) _).mono ?_; rintro e w' ⟨rfl, rfl⟩) | (go_at_call 60; refine (rorder_any _ _ (by assumption) (by assumption) _).mono ?_; rintro e w' ⟨rfl, rfl⟩))
          go_ret
          exact ⟨by first | rfl | (simp; done) | simp_all, rfl⟩
        · rw [hl, show (!false && decide (ordW a b < 0)) = false from by simp [ho]]
          clear hl
          go_enter Tryz.func58, Tryz.ntmps58
          go_wp2_with (first | (go_at_call 35; refine (risNaN_any _ (by assumption) _).mono ?_; rintro e w' ⟨rfl, rfl⟩) | (go_at_call 102; refine (requal_any _ _ (by assumption) (by assumption) _).mono ?_; rintro e w' ⟨rfl, rfl⟩) | (go_at_call 60; refine (rorder_any _ _ (by assumption) (by assumption) _).mono ?_; rintro e w' ⟨rfl, rfl⟩))
          go_ret
          exact ⟨by first | rfl | (simp; done) | simp_all, rfl⟩
      · rw [he] at hl
        rw [hl, show (!true && decide (ordW a b < 0)) = false from by simp]
        clear hl
        go_enter Tryz.func58, Tryz.ntmps58
        go_wp2_with (first | (go_at_call 35; refine (risNaN_any _ (by assumption) _).mono ?_; rintro e w' ⟨rfl, rfl⟩) | (go_at_call 102; refine (requal_any _ _ (by assumption) (by assumption) _).mono ?_; rintro e w' ⟨rfl, rfl⟩) | (go_at_call 60; refine (rorder_any _ _ (by assumption) (by assumption) _).mono ?_; rintro e w' ⟨rfl, rfl⟩))
        go_ret
        exact ⟨rfl, rfl⟩
end Go.Proofs.YthjngodkpldpfaaGreatDoor
end

section
namespace Go.Proofs.YthjngodkpldpfaaGreatDoor
open Go.RowKit

set_option maxHeartbeats 400000 in
theorem rcanon_any (a : Nat) (h : a < 18446744073709551616) (w : World) : Calls Tryz.prog 23 #[.int .u64 (a : Int)] w fun e w' => e = .returned (.int .u64 (Gn.canonW a : Int)) ∧ w' = w := by
  unfold Gn.canonW
  by_cases hn : clsN a = 0
  · rw [if_pos ((cls_nan a).1 hn)]
    have hb := nanB_t hn
    clear hn
    go_enter Tryz.func23, Tryz.ntmps23
    go_wp2_with (go_at_call 35; refine (risNaN_any _ h _).mono ?_; rintro e w' ⟨rfl, rfl⟩)
    go_ret
    exact ⟨rfl, rfl⟩
  · rw [if_neg (fun k => hn ((cls_nan a).2 k))]
    have hb := nanB_f hn
    clear hn
    go_enter Tryz.func23, Tryz.ntmps23
    go_wp2_with (go_at_call 35; refine (risNaN_any _ h _).mono ?_; rintro e w' ⟨rfl, rfl⟩)
    go_ret
    exact ⟨rfl, rfl⟩
theorem flip_nan (a : Nat) : Gn.flipW a % 9223372036854775808 = a % 9223372036854775808 := by
  unfold Gn.flipW; split <;> omega
set_option maxHeartbeats 400000 in
theorem rneg_any (a : Nat) (h : a < 18446744073709551616) (w : World) : Calls Tryz.prog 61 #[.int .u64 (a : Int)] w fun e w' => e = .returned (.int .u64 (Gn.negW a : Int)) ∧ w' = w := by
  have hf := flip_xor a h
  unfold Gn.negW Gn.canonW
  rw [flip_nan]
  by_cases hn : clsN a = 0
  · rw [if_pos ((cls_nan a).1 hn)]
    have hb := nanB_t hn
    clear hn
    go_enter Tryz.func61, Tryz.ntmps61
    go_wp2_with (go_at_call 35; refine (risNaN_any _ h _).mono ?_; rintro e w' ⟨rfl, rfl⟩)
    go_ret
    exact ⟨rfl, rfl⟩
  · rw [if_neg (fun k => hn ((cls_nan a).2 k))]
    have hb := nanB_f hn
    clear hn
    go_enter Tryz.func61, Tryz.ntmps61
    go_wp2_with (go_at_call 35; refine (risNaN_any _ h _).mono ?_; rintro e w' ⟨rfl, rfl⟩)
    go_ret
    exact ⟨rfl, rfl⟩
set_option maxHeartbeats 400000 in
theorem rabs_any (a : Nat) (h : a < 18446744073709551616) (w : World) : Calls Tryz.prog 62 #[.int .u64 (a : Int)] w fun e w' => e = .returned (.int .u64 (Gn.absW a : Int)) ∧ w' = w := by
  have hf : bits .andNot .u64 (a : Int) 9223372036854775808 = (lowW a : Int) := abs_andNot a h
  have e0 : Gn.absW a = if 9218868437227405312 < a % 9223372036854775808 then 9221120237041090561 else lowW a := by
    unfold Gn.absW Gn.canonW lowW; rw [Nat.mod_mod]
  rw [e0]
  by_cases hn : clsN a = 0
  · rw [if_pos ((cls_nan a).1 hn)]
    have hb := nanB_t hn
    clear hn e0
    go_enter Tryz.func62, Tryz.ntmps62
    go_wp2_with (go_at_call 35; refine (risNaN_any _ h _).mono ?_; rintro e w' ⟨rfl, rfl⟩)
    go_ret
    exact ⟨rfl, rfl⟩
  · rw [if_neg (fun k => hn ((cls_nan a).2 k))]
    have hb := nanB_f hn
    clear hn e0
    go_enter Tryz.func62, Tryz.ntmps62
    go_wp2_with (go_at_call 35; refine (risNaN_any _ h _).mono ?_; rintro e w' ⟨rfl, rfl⟩)
    go_ret
    exact ⟨rfl, rfl⟩
theorem rcls_cases (a : Nat) : (decide ((9218868437227405312 : Int) < (lowW a : Int)) = true ∧ clsN a = 0) ∨ (decide ((9218868437227405312 : Int) < (lowW a : Int)) = false ∧ ((lowW a : Int) == 9218868437227405312) = true ∧ clsN a = 1) ∨ (decide ((9218868437227405312 : Int) < (lowW a : Int)) = false ∧ ((lowW a : Int) == 9218868437227405312) = false ∧ ((lowW a : Int) == 0) = true ∧ clsN a = 2) ∨ (decide ((9218868437227405312 : Int) < (lowW a : Int)) = false ∧ ((lowW a : Int) == 9218868437227405312) = false ∧ ((lowW a : Int) == 0) = false ∧ decide ((lowW a : Int) < 4503599627370496) = true ∧ clsN a = 3) ∨ (decide ((9218868437227405312 : Int) < (lowW a : Int)) = false ∧ ((lowW a : Int) == 9218868437227405312) = false ∧ ((lowW a : Int) == 0) = false ∧ decide ((lowW a : Int) < 4503599627370496) = false ∧ clsN a = 4) := by
  have hc : clsN a = if 9218868437227405312 < lowW a then 0 else if lowW a = 9218868437227405312 then 1 else if lowW a = 0 then 2 else if lowW a < 4503599627370496 then 3 else 4 := rfl
  rw [hc]
  generalize lowW a = l
  by_cases h1 : 9218868437227405312 < l
  · rw [if_pos h1]; exact .inl ⟨decide_eq_true (by omega), rfl⟩
  · rw [if_neg h1]
    have b1 : decide ((9218868437227405312 : Int) < (l : Int)) = false := decide_eq_false (by omega)
    by_cases h2 : l = 9218868437227405312
    · rw [if_pos h2]; exact .inr (.inl ⟨b1, beqN_t (y := 9218868437227405312) h2, rfl⟩)
    · rw [if_neg h2]
      have b2 : ((l : Int) == 9218868437227405312) = false := beqN_f (y := 9218868437227405312) h2
      by_cases h3 : l = 0
      · rw [if_pos h3]; exact .inr (.inr (.inl ⟨b1, b2, beqN_t (y := 0) h3, rfl⟩))
      · rw [if_neg h3]
        have b3 : ((l : Int) == 0) = false := beqN_f (y := 0) h3
        by_cases h4 : l < 4503599627370496
        · rw [if_pos h4]; exact .inr (.inr (.inr (.inl ⟨b1, b2, b3, decide_eq_true (by omega), rfl⟩)))
        · rw [if_neg h4]; exact .inr (.inr (.inr (.inr ⟨b1, b2, b3, decide_eq_false (by omega), rfl⟩)))
set_option maxHeartbeats 400000 in
theorem rclass_any (a : Nat) (h : a < 18446744073709551616) (w : World) : Calls Tryz.prog 66 #[.int .u64 (a : Int)] w fun e w' => e = .returned (.int .i64 (clsN a : Int)) ∧ w' = w := by
  have hf : bits .andNot .u64 (a : Int) 9223372036854775808 = (lowW a : Int) := abs_andNot a h
  rcases rcls_cases a with ⟨h1, hc⟩ | ⟨h1, h2, hc⟩ | ⟨h1, h2, h3, hc⟩ | ⟨h1, h2, h3, h4, hc⟩ | ⟨h1, h2, h3, h4, hc⟩
  all_goals
    rw [hc]
    clear hc
    go_enter Tryz.func66, Tryz.ntmps66
    go_wp2
    go_ret
    exact ⟨rfl, rfl⟩
set_option maxHeartbeats 400000 in
theorem rmin_any (a b : Nat) (ha : a < 18446744073709551616) (hb : b < 18446744073709551616) (w : World) : Calls Tryz.prog 56 #[.int .u64 (a : Int), .int .u64 (b : Int)] w fun e w' => e = .returned (.int .u64 (minW a b : Int)) ∧ w' = w := by
  have cases_ : (nanB a = true ∧ minW a b = 9221120237041090561) ∨ (nanB a = false ∧ nanB b = true ∧ minW a b = 9221120237041090561) ∨ (nanB a = false ∧ nanB b = false ∧ ordW a b ≤ 0 ∧ minW a b = a) ∨ (nanB a = false ∧ nanB b = false ∧ 0 < ordW a b ∧ minW a b = b) := by
    unfold minW anyN
    by_cases na : clsN a = 0
    · exact .inl ⟨nanB_t na, by simp [na]⟩
    · by_cases nb : clsN b = 0
      · exact .inr (.inl ⟨nanB_f na, nanB_t nb, by simp [nb]⟩)
      · rw [show (clsN a == 0 || clsN b == 0) = false from by simp [na, nb], if_neg (by simp)]
        by_cases hr : rankW b < rankW a
        · exact .inr (.inr (.inr ⟨nanB_f na, nanB_f nb, ord_pos hr, by rw [if_pos hr]⟩))
        · exact .inr (.inr (.inl ⟨nanB_f na, nanB_f nb, by have := ord_pos' hr; omega, by rw [if_neg hr]⟩))
  rcases cases_ with ⟨h1, hm⟩ | ⟨h1, h2, hm⟩ | ⟨h1, h2, h3, hm⟩ | ⟨h1, h2, h3, hm⟩
  all_goals
    rw [hm]
    clear hm
    go_enter Tryz.func56, Tryz.ntmps56
    go_wp2_with (first | (go_at_call 35; refine (risNaN_any _ (by assumption) _).mono ?_; rintro e w' ⟨rfl, rfl⟩) | (go_at_call 60; refine (rorder_any _ _ (by assumption) (by assumption) _).mono ?_; rintro e w' ⟨rfl, rfl⟩))
    go_ret
    exact ⟨rfl, rfl⟩
set_option maxHeartbeats 400000 in
theorem rmax_any (a b : Nat) (ha : a < 18446744073709551616) (hb : b < 18446744073709551616) (w : World) : Calls Tryz.prog 57 #[.int .u64 (a : Int), .int .u64 (b : Int)] w fun e w' => e = .returned (.int .u64 (maxW a b : Int)) ∧ w' = w := by
  have cases_ : (nanB a = true ∧ maxW a b = 9221120237041090561) ∨ (nanB a = false ∧ nanB b = true ∧ maxW a b = 9221120237041090561) ∨ (nanB a = false ∧ nanB b = false ∧ 0 ≤ ordW a b ∧ maxW a b = a) ∨ (nanB a = false ∧ nanB b = false ∧ ordW a b < 0 ∧ maxW a b = b) := by
    unfold maxW anyN
    by_cases na : clsN a = 0
    · exact .inl ⟨nanB_t na, by simp [na]⟩
    · by_cases nb : clsN b = 0
      · exact .inr (.inl ⟨nanB_f na, nanB_t nb, by simp [nb]⟩)
      · rw [show (clsN a == 0 || clsN b == 0) = false from by simp [na, nb], if_neg (by simp)]
        by_cases hr : rankW a < rankW b
        · exact .inr (.inr (.inr ⟨nanB_f na, nanB_f nb, ord_neg hr, by rw [if_pos hr]⟩))
        · exact .inr (.inr (.inl ⟨nanB_f na, nanB_f nb, by have := ord_neg' hr; omega, by rw [if_neg hr]⟩))
  rcases cases_ with ⟨h1, hm⟩ | ⟨h1, h2, hm⟩ | ⟨h1, h2, h3, hm⟩ | ⟨h1, h2, h3, hm⟩
  all_goals
    rw [hm]
    clear hm
    go_enter Tryz.func57, Tryz.ntmps57
    go_wp2_with (first | (go_at_call 35; refine (risNaN_any _ (by assumption) _).mono ?_; rintro e w' ⟨rfl, rfl⟩) | (go_at_call 60; refine (rorder_any _ _ (by assumption) (by assumption) _).mono ?_; rintro e w' ⟨rfl, rfl⟩))
    go_ret
    exact ⟨rfl, rfl⟩
end Go.Proofs.YthjngodkpldpfaaGreatDoor
end
