import Derived.Test.YthjngodkpldpfaaGreatDoorMgAG
import Derived.Test.YthjngodkpldpfaaGreatDoorMgAD
import Derived.Test.YthjngodkpldpfaaGreatDoorMgAC

section
namespace Go.Proofs.YthjngodkpldpfaaGreatDoor
open Go.RowKit

set_option maxHeartbeats 2000000 in
/-- without rounding, at the least place -/
theorem rounded_left_low (s W n : Nat) (e : Int) (rest : Bool) (_h1 : -4400 ≤ e) (_h2 : e ≤ 4400) (hL : bl W ≤ 128) (HW : Hid (W < 18446744073709551616 * 18446744073709551616)) (w : World)
    (hq : e + (bl W : Int) - 53 < -1074) (hqe : -1074 - e = -(n : Int)) (hn : n ≤ 127) (HN : Hid (W * 2 ^ n < 18446744073709551616 * 18446744073709551616))
    (m : Nat) (hmw : loN (W * 2 ^ n) = m) (g4 : IntKind.u64.wrap (m : Int) = (m : Int)) (g5 : decide ((9218868437227405312 : Int) ≤ (m : Int)) = false) (r : Nat) (hr : bits .or .u64 (s : Int) (m : Int) = (r : Int)) :
    Calls Tryz.prog 97 #[.int .u64 (s : Int), wn W, .int .i64 e, .bool rest] w fun e' w' => e' = .returned (.int .u64 (r : Int)) ∧ Below w.heap.size w w' := by
  go_enter Tryz.func97, Tryz.ntmps97
  go_wp2_with fail
  refine (length_n W HW.out _).mono ?_
  rintro e' w1 ⟨rfl, hb1⟩
  obtain ⟨p0, p1, p2, p3, p4⟩ := keep2 (B := w.heap.size) hb1 (by simp) (by simp; rfl) (by simp; rfl) (by simp) (by simp)
  go_wp2_with fail
  refine (left_n W n hn HN.out _).mono ?_
  rintro e' w2 ⟨rfl, hb2⟩
  clear HN HW
  generalize W * 2 ^ n = V at *
  obtain ⟨t0, t1, t2, t3, t4⟩ := keep2 (B := w1.heap.size) hb2 (by simp) (by simp; rfl) (by simp; rfl) (by simp) (by simp)
  go_wp2_with fail
  go_ret
  have B1 := ((Below.refl w.heap.size w).alloc (Nat.le_refl _) _).trans (hb1.mono (by simp))
  have hs1 := B1.size
  have B3 := (B1.alloc hs1 _).trans (hb2.mono (by simp; omega))
  exact ⟨rfl, (B3.setCell (p := ⟨w1.heap.size, 0, none⟩) hs1 _).setCell (p := ⟨w1.heap.size, 1, none⟩) hs1 _⟩
set_option maxHeartbeats 2000000 in
/-- without rounding, beyond the greatest place -/
theorem rounded_left_inf (s W n : Nat) (e q : Int) (rest : Bool) (_h1 : -4400 ≤ e) (_h2 : e ≤ 4400) (hL : bl W ≤ 128) (HW : Hid (W < 18446744073709551616 * 18446744073709551616)) (w : World)
    (hq : e + (bl W : Int) - 53 = q) (hq2 : 971 < q) (hqe : q - e = -(n : Int)) (hn : n ≤ 127) (HN : Hid (W * 2 ^ n < 18446744073709551616 * 18446744073709551616))
    (r : Nat) (hr : bits .or .u64 (s : Int) 9218868437227405312 = (r : Int)) :
    Calls Tryz.prog 97 #[.int .u64 (s : Int), wn W, .int .i64 e, .bool rest] w fun e' w' => e' = .returned (.int .u64 (r : Int)) ∧ Below w.heap.size w w' := by
  go_enter Tryz.func97, Tryz.ntmps97
  go_wp2_with fail
  refine (length_n W HW.out _).mono ?_
  rintro e' w1 ⟨rfl, hb1⟩
  obtain ⟨p0, p1, p2, p3, p4⟩ := keep2 (B := w.heap.size) hb1 (by simp) (by simp; rfl) (by simp; rfl) (by simp) (by simp)
  go_wp2_with fail
  refine (left_n W n hn HN.out _).mono ?_
  rintro e' w2 ⟨rfl, hb2⟩
  clear HN HW
  generalize W * 2 ^ n = V at *
  obtain ⟨t0, t1, t2, t3, t4⟩ := keep2 (B := w1.heap.size) hb2 (by simp) (by simp; rfl) (by simp; rfl) (by simp) (by simp)
  go_wp2_with fail
  go_ret
  have B1 := ((Below.refl w.heap.size w).alloc (Nat.le_refl _) _).trans (hb1.mono (by simp))
  have hs1 := B1.size
  have B3 := (B1.alloc hs1 _).trans (hb2.mono (by simp; omega))
  exact ⟨rfl, (B3.setCell (p := ⟨w1.heap.size, 0, none⟩) hs1 _).setCell (p := ⟨w1.heap.size, 1, none⟩) hs1 _⟩
end Go.Proofs.YthjngodkpldpfaaGreatDoor
end

section
namespace Go.Proofs.YthjngodkpldpfaaGreatDoor
open Go.RowKit

def nanB (a : Nat) : Bool := decide (9218868437227405312 < lowW a)
theorem nanB_t {a : Nat} (h : clsN a = 0) : nanB a = true := by unfold nanB; exact decide_eq_true ((cls_nan a).1 h)
theorem nanB_f {a : Nat} (h : clsN a ≠ 0) : nanB a = false := by unfold nanB; exact decide_eq_false (fun k => h ((cls_nan a).2 k))
set_option maxHeartbeats 400000 in
theorem risNaN_any (a : Nat) (h : a < 18446744073709551616) (w : World) : Calls Tryz.prog 35 #[.int .u64 (a : Int)] w fun e w' => e = .returned (.bool (nanB a)) ∧ w' = w := by
  have hf : bits .andNot .u64 (a : Int) 9223372036854775808 = (lowW a : Int) := abs_andNot a h
  by_cases hn : 9218868437227405312 < lowW a
  · rw [show nanB a = true from decide_eq_true hn]
    go_enter Tryz.func35, Tryz.ntmps35
    go_wp2
    go_ret
    exact ⟨congrArg (fun b => Ending.returned (.bool b)) (by simp; omega), rfl⟩
  · rw [show nanB a = false from decide_eq_false hn]
    go_enter Tryz.func35, Tryz.ntmps35
    go_wp2
    go_ret
    exact ⟨congrArg (fun b => Ending.returned (.bool b)) (by simp; omega), rfl⟩
def rrankW (a : Nat) : Nat := if nanB a then 18442240474082181121 else rankW a
theorem rank_num {a : Nat} (h : clsN a ≠ 0) : rankW a = if a < 9223372036854775808 then a + 9223372036854775808 else 18446744073709551615 - a := by
  unfold rankW
  have : Gn.canonW a = a := by unfold Gn.canonW; rw [if_neg (fun k => h ((cls_nan a).2 k))]
  rw [this]
set_option maxHeartbeats 400000 in
theorem rrank_any (a : Nat) (h : a < 18446744073709551616) (w : World) : Calls Tryz.prog 103 #[.int .u64 (a : Int)] w fun e w' => e = .returned (.int .u64 (rrankW a : Int)) ∧ w' = w := by
  unfold rrankW
  by_cases hn : clsN a = 0
  · have hb := nanB_t hn
    rw [hb, if_pos rfl]
    clear hn
    go_enter Tryz.func103, Tryz.ntmps103
    go_wp2_with (go_at_call 35; refine (risNaN_any _ h _).mono ?_; rintro e w' ⟨rfl, rfl⟩)
    go_ret
    exact ⟨rfl, rfl⟩
  · have hb := nanB_f hn
    rw [hb, if_neg (by simp), rank_num hn]
    clear hn
    have ha := top_and a h
    by_cases hc : a < 9223372036854775808
    · rw [if_pos hc] at *
      have ho := top_or a hc
      generalize a + 9223372036854775808 = r at *
      go_enter Tryz.func103, Tryz.ntmps103
      go_wp2_with (go_at_call 35; refine (risNaN_any _ h _).mono ?_; rintro e w' ⟨rfl, rfl⟩)
      go_ret
      exact ⟨rfl, rfl⟩
    · rw [if_neg hc] at *
      have ho := not_u64 a h
      have hsg : IntKind.u64.signed = false := rfl
      generalize 18446744073709551615 - a = r at *
      go_enter Tryz.func103, Tryz.ntmps103
      go_wp2_with (go_at_call 35; refine (risNaN_any _ h _).mono ?_; rintro e w' ⟨rfl, rfl⟩)
      go_ret
      exact ⟨rfl, rfl⟩

theorem rank_lt_nan {a b : Nat} (ha : a < 18446744073709551616) (na : clsN a ≠ 0) (nb : clsN b = 0) : rankW a < rankW b := by
  obtain ⟨s, r, hr, rfl⟩ := num_wd a ha na
  have hb : rankW b = 18444492273895866369 := by
    unfold rankW
    have : Gn.canonW b = 9221120237041090561 := by unfold Gn.canonW; rw [if_pos ((cls_nan b).1 nb)]
    rw [this]; rfl
  rw [hb]
  cases s
  · rw [rank_f hr]; omega
  · rw [rank_t hr]; omega
theorem rank_nn {a b : Nat} (na : clsN a = 0) (nb : clsN b = 0) : rankW a = rankW b := by
  unfold rankW
  have e1 : Gn.canonW b = 9221120237041090561 := by unfold Gn.canonW; rw [if_pos ((cls_nan b).1 nb)]
  have e2 : Gn.canonW a = 9221120237041090561 := by unfold Gn.canonW; rw [if_pos ((cls_nan a).1 na)]
  rw [e1, e2]
theorem rank_num_lt {a : Nat} (ha : a < 18446744073709551616) (na : clsN a ≠ 0) : rankW a < 18442240474082181121 := by
  obtain ⟨s, r, hr, rfl⟩ := num_wd a ha na
  cases s
  · rw [rank_f hr]; omega
  · rw [rank_t hr]; omega
theorem rrank_cmp {a b : Nat} (ha : a < 18446744073709551616) (hb : b < 18446744073709551616) : cmpW (rrankW a) (rrankW b) = ordW a b := by
  unfold ordW
  by_cases na : clsN a = 0
  · by_cases nb : clsN b = 0
    · unfold rrankW; rw [nanB_t na, nanB_t nb, if_pos rfl, if_pos rfl, rank_nn na nb]; unfold cmpW; simp
    · unfold rrankW; rw [nanB_t na, nanB_f nb, if_pos rfl, if_neg (by simp)]
      have h1 := rank_num_lt hb nb
      have h2 := rank_lt_nan hb nb na
      unfold cmpW; rw [if_neg (by omega), if_pos h1, if_neg (by omega), if_pos h2]
  · by_cases nb : clsN b = 0
    · unfold rrankW; rw [nanB_f na, nanB_t nb, if_pos rfl, if_neg (by simp)]
      have h1 := rank_num_lt ha na
      have h2 := rank_lt_nan ha na nb
      unfold cmpW; rw [if_pos h1, if_pos h2]
    · unfold rrankW; rw [nanB_f na, nanB_f nb, if_neg (by simp), if_neg (by simp)]
set_option maxHeartbeats 400000 in
theorem rorder_any (a b : Nat) (ha : a < 18446744073709551616) (hb : b < 18446744073709551616) (w : World) : Calls Tryz.prog 60 #[.int .u64 (a : Int), .int .u64 (b : Int)] w fun e w' => e = .returned (.int .i64 (ordW a b)) ∧ w' = w := by
  rw [← rrank_cmp ha hb]
  unfold cmpW
  by_cases h1 : rrankW a < rrankW b
  · rw [if_pos h1]
    go_enter Tryz.func60, Tryz.ntmps60
    go_wp2_with (go_at_call 103; refine (rrank_any _ (by assumption) _).mono ?_; rintro e w' ⟨rfl, rfl⟩)
    go_ret
    exact ⟨rfl, rfl⟩
  · rw [if_neg h1]
    by_cases h2 : rrankW b < rrankW a
    · rw [if_pos h2]
      go_enter Tryz.func60, Tryz.ntmps60
      go_wp2_with (go_at_call 103; refine (rrank_any _ (by assumption) _).mono ?_; rintro e w' ⟨rfl, rfl⟩)
      go_ret
      exact ⟨rfl, rfl⟩
    · rw [if_neg h2]
      go_enter Tryz.func60, Tryz.ntmps60
      go_wp2_with (go_at_call 103; refine (rrank_any _ (by assumption) _).mono ?_; rintro e w' ⟨rfl, rfl⟩)
      go_ret
      exact ⟨rfl, rfl⟩
end Go.Proofs.YthjngodkpldpfaaGreatDoor
end

section
namespace Go.Proofs.YthjngodkpldpfaaGreatDoor
open Go.RowKit

theorem rank_inj' {a b : Nat} (ha : a < 18446744073709551616) (hb : b < 18446744073709551616) (na : clsN a ≠ 0) (nb : clsN b ≠ 0) (h : rankW a = rankW b) : a = b := by
  rw [rank_num na, rank_num nb] at h
  by_cases h1 : a < 9223372036854775808
  · by_cases h2 : b < 9223372036854775808
    · rw [if_pos h1, if_pos h2] at h; omega
    · rw [if_pos h1, if_neg h2] at h; omega
  · by_cases h2 : b < 9223372036854775808
    · rw [if_neg h1, if_pos h2] at h; omega
    · rw [if_neg h1, if_neg h2] at h; omega
theorem low_zero (a : Nat) : lowW a = 0 ↔ clsN a = 2 := by
  unfold lowW clsN
  by_cases h1 : 9218868437227405312 < a % 9223372036854775808
  · rw [if_pos h1]; omega
  · rw [if_neg h1]
    by_cases h2 : a % 9223372036854775808 = 9218868437227405312
    · rw [if_pos h2]; omega
    · rw [if_neg h2]
      by_cases h3 : a % 9223372036854775808 = 0
      · rw [if_pos h3]; omega
      · rw [if_neg h3]; split <;> omega
theorem eq_is (a b : Nat) (ha : a < 18446744073709551616) (hb : b < 18446744073709551616) (na : clsN a ≠ 0) (nb : clsN b ≠ 0) : eqW a b = (decide (a = b) || (decide (lowW a = 0) && decide (lowW b = 0))) := by
  rw [(lt_rank a b ha hb na nb).2]
  have e1 : decide (rankW a = rankW b) = decide (a = b) := by
    by_cases h : a = b
    · subst h; simp
    · have : rankW a ≠ rankW b := fun k => h (rank_inj' ha hb na nb k)
      simp [h, this]
  have e2 : bothZ a b = (decide (lowW a = 0) && decide (lowW b = 0)) := by
    unfold bothZ; rw [Bool.eq_iff_iff]; simp [low_zero]
  rw [e1, e2]

set_option maxHeartbeats 400000 in
theorem requal_any (a b : Nat) (ha : a < 18446744073709551616) (hb : b < 18446744073709551616) (w : World) : Calls Tryz.prog 102 #[.int .u64 (a : Int), .int .u64 (b : Int)] w fun e w' => e = .returned (.bool (eqW a b)) ∧ w' = w := by
  have fa : bits .andNot .u64 (a : Int) 9223372036854775808 = (lowW a : Int) := abs_andNot a ha
  have fb : bits .andNot .u64 (b : Int) 9223372036854775808 = (lowW b : Int) := abs_andNot b hb
  by_cases na : clsN a = 0
  · rw [(lt_nan a b ha hb (.inl na)).2]
    have n1 := nanB_t na
    clear na
    go_enter Tryz.func102, Tryz.ntmps102
    go_wp2_with (go_at_call 35; refine (risNaN_any _ (by assumption) _).mono ?_; rintro e w' ⟨rfl, rfl⟩)
    go_ret
    exact ⟨rfl, rfl⟩
  · by_cases nb : clsN b = 0
    · rw [(lt_nan a b ha hb (.inr nb)).2]
      have n1 := nanB_f na
      have n2 := nanB_t nb
      clear na nb
      go_enter Tryz.func102, Tryz.ntmps102
      go_wp2_with (go_at_call 35; refine (risNaN_any _ (by assumption) _).mono ?_; rintro e w' ⟨rfl, rfl⟩)
      go_ret
      exact ⟨rfl, rfl⟩
    · rw [eq_is a b ha hb na nb]
      have n1 := nanB_f na
      have n2 := nanB_f nb
      clear na nb
      by_cases h1 : a = b
      · subst h1
        rw [show (decide (a = a) || (decide (lowW a = 0) && decide (lowW a = 0))) = true from by simp]
        go_enter Tryz.func102, Tryz.ntmps102
        go_wp2_with (go_at_call 35; refine (risNaN_any _ (by assumption) _).mono ?_; rintro e w' ⟨rfl, rfl⟩)
        go_ret
        exact ⟨rfl, rfl⟩
      · have hne : ((a : Int) == (b : Int)) = false := beqN_f h1
        by_cases h2 : lowW a = 0
        · have z1 : ((lowW a : Int) == 0) = true := beqN_t (y := 0) h2
          by_cases h3 : lowW b = 0
          · have z2 : ((lowW b : Int) == 0) = true := beqN_t (y := 0) h3
            rw [show (decide (a = b) || (decide (lowW a = 0) && decide (lowW b = 0))) = true from by simp [h2, h3]]
            clear h1 h2 h3
            go_enter Tryz.func102, Tryz.ntmps102
            go_wp2_with (go_at_call 35; refine (risNaN_any _ (by assumption) _).mono ?_; rintro e w' ⟨rfl, rfl⟩)
            go_ret
            exact ⟨rfl, rfl⟩
          · have z2 : ((lowW b : Int) == 0) = false := beqN_f (y := 0) h3
            rw [show (decide (a = b) || (decide (lowW a = 0) && decide (lowW b = 0))) = false from by simp [h1, h3]]
            clear h1 h2 h3
            go_enter Tryz.func102, Tryz.ntmps102
            go_wp2_with (go_at_call 35; refine (risNaN_any _ (by assumption) _).mono ?_; rintro e w' ⟨rfl, rfl⟩)
            go_ret
            exact ⟨rfl, rfl⟩
        · have z1 : ((lowW a : Int) == 0) = false := beqN_f (y := 0) h2
          rw [show (decide (a = b) || (decide (lowW a = 0) && decide (lowW b = 0))) = false from by simp [h1, h2]]
          clear h1 h2
          go_enter Tryz.func102, Tryz.ntmps102
          go_wp2_with (go_at_call 35; refine (risNaN_any _ (by assumption) _).mono ?_; rintro e w' ⟨rfl, rfl⟩)
          go_ret
          exact ⟨rfl, rfl⟩

theorem lt_is (a b : Nat) (ha : a < 18446744073709551616) (hb : b < 18446744073709551616) (na : clsN a ≠ 0) (nb : clsN b ≠ 0) : ltW a b = (!eqW a b && decide (ordW a b < 0)) := by
  obtain ⟨h1, h2⟩ := lt_rank a b ha hb na nb
  rw [h1, h2]
  have e : decide (ordW a b < 0) = decide (rankW a < rankW b) := by
    by_cases h : rankW a < rankW b
    · simp [h, ord_neg h]
    · have := ord_neg' h; simp only [h, this]
  rw [e]
  by_cases h : rankW a < rankW b
  · have : rankW a ≠ rankW b := by omega
    simp [h, this]
  · simp [h]
set_option maxHeartbeats 400000 in
theorem rless_any (a b : Nat) (ha : a < 18446744073709551616) (hb : b < 18446744073709551616) (w : World) : Calls Tryz.prog 58 #[.int .u64 (a : Int), .int .u64 (b : Int)] w fun e w' => e = .returned (.bool (ltW a b)) ∧ w' = w := by
  by_cases na : clsN a = 0
  · rw [(lt_nan a b ha hb (.inl na)).1]
    have n1 := nanB_t na
    clear na
    go_enter Tryz.func58, Tryz.ntmps58
    go_wp2_with (go_at_call 35; refine (risNaN_any _ (by assumption) _).mono ?_; rintro e w' ⟨rfl, rfl⟩)
    go_ret
    exact ⟨rfl, rfl⟩
  · by_cases nb : clsN b = 0
    · rw [(lt_nan a b ha hb (.inr nb)).1]
      have n1 := nanB_f na
      have n2 := nanB_t nb
      clear na nb
      go_enter Tryz.func58, Tryz.ntmps58
      go_wp2_with (go_at_call 35; refine (risNaN_any _ (by assumption) _).mono ?_; rintro e w' ⟨rfl, rfl⟩)
      go_ret
      exact ⟨rfl, rfl⟩
    · have hl := lt_is a b ha hb na nb
      have n1 := nanB_f na
      have n2 := nanB_f nb
      clear na nb
      cases he : eqW a b
      · rw [he] at hl
        by_cases ho : ordW a b < 0
        · rw [hl, show (!false && decide (ordW a b < 0)) = true from by simp [ho]]
          clear hl
          go_enter Tryz.func58, Tryz.ntmps58
          go_wp2_with (first | (go_at_call 35; refine (risNaN_any _ (by assumption) _).mono ?_; rintro e w' ⟨rfl, rfl⟩) | (go_at_call 102; refine (requal_any _ _ (by assumption) (by assumption) _).mono ?_; rintro e w' ⟨rfl, rfl⟩) | (go_at_call 60; refine (rorder_any _ _ (by assumption) (by assumption) _).mono ?_; rintro e w' ⟨rfl, rfl⟩))
          go_ret
          exact ⟨by first | rfl | (simp; done) | simp_all, rfl⟩
        · rw [hl, show (!false && decide (ordW a b < 0)) = false from by simp [ho]]
          clear hl
          go_enter Tryz.func58, Tryz.ntmps58
          go_wp2_with (first | (go_at_call 35; refine (risNaN_any _ (by assumption) _).mono ?_; rintro e w' ⟨rfl, rfl⟩) | (go_at_call 102; refine (requal_any _ _ (by assumption) (by assumption) _).mono ?_; rintro e w' ⟨rfl, rfl⟩) | (go_at_call 60; refine (rorder_any _ _ (by assumption) (by assumption) _).mono ?_; rintro e w' ⟨rfl, rfl⟩))
          go_ret
          exact ⟨by first | rfl | (simp; done) | simp_all, rfl⟩
      · rw [he] at hl
        rw [hl, show (!true && decide (ordW a b < 0)) = false from by simp]
        clear hl
        go_enter Tryz.func58, Tryz.ntmps58
        go_wp2_with (first | (go_at_call 35; refine (risNaN_any _ (by assumption) _).mono ?_; rintro e w' ⟨rfl, rfl⟩) | (go_at_call 102; refine (requal_any _ _ (by assumption) (by assumption) _).mono ?_; rintro e w' ⟨rfl, rfl⟩) | (go_at_call 60; refine (rorder_any _ _ (by assumption) (by assumption) _).mono ?_; rintro e w' ⟨rfl, rfl⟩))
        go_ret
        exact ⟨rfl, rfl⟩
end Go.Proofs.YthjngodkpldpfaaGreatDoor
end

section
namespace Go.Proofs.YthjngodkpldpfaaGreatDoor
open Go.RowKit

set_option maxHeartbeats 400000 in
theorem rcanon_any (a : Nat) (h : a < 18446744073709551616) (w : World) : Calls Tryz.prog 23 #[.int .u64 (a : Int)] w fun e w' => e = .returned (.int .u64 (Gn.canonW a : Int)) ∧ w' = w := by
  unfold Gn.canonW
  by_cases hn : clsN a = 0
  · rw [if_pos ((cls_nan a).1 hn)]
    have hb := nanB_t hn
    clear hn
    go_enter Tryz.func23, Tryz.ntmps23
    go_wp2_with (go_at_call 35; refine (risNaN_any _ h _).mono ?_; rintro e w' ⟨rfl, rfl⟩)
    go_ret
    exact ⟨rfl, rfl⟩
  · rw [if_neg (fun k => hn ((cls_nan a).2 k))]
    have hb := nanB_f hn
    clear hn
    go_enter Tryz.func23, Tryz.ntmps23
    go_wp2_with (go_at_call 35; refine (risNaN_any _ h _).mono ?_; rintro e w' ⟨rfl, rfl⟩)
    go_ret
    exact ⟨rfl, rfl⟩
theorem flip_nan (a : Nat) : Gn.flipW a % 9223372036854775808 = a % 9223372036854775808 := by
  unfold Gn.flipW; split <;> omega
set_option maxHeartbeats 400000 in
theorem rneg_any (a : Nat) (h : a < 18446744073709551616) (w : World) : Calls Tryz.prog 61 #[.int .u64 (a : Int)] w fun e w' => e = .returned (.int .u64 (Gn.negW a : Int)) ∧ w' = w := by
  have hf := flip_xor a h
  unfold Gn.negW Gn.canonW
  rw [flip_nan]
  by_cases hn : clsN a = 0
  · rw [if_pos ((cls_nan a).1 hn)]
    have hb := nanB_t hn
    clear hn
    go_enter Tryz.func61, Tryz.ntmps61
    go_wp2_with (go_at_call 35; refine (risNaN_any _ h _).mono ?_; rintro e w' ⟨rfl, rfl⟩)
    go_ret
    exact ⟨rfl, rfl⟩
  · rw [if_neg (fun k => hn ((cls_nan a).2 k))]
    have hb := nanB_f hn
    clear hn
    go_enter Tryz.func61, Tryz.ntmps61
    go_wp2_with (go_at_call 35; refine (risNaN_any _ h _).mono ?_; rintro e w' ⟨rfl, rfl⟩)
    go_ret
    exact ⟨rfl, rfl⟩
set_option maxHeartbeats 400000 in
theorem rabs_any (a : Nat) (h : a < 18446744073709551616) (w : World) : Calls Tryz.prog 62 #[.int .u64 (a : Int)] w fun e w' => e = .returned (.int .u64 (Gn.absW a : Int)) ∧ w' = w := by
  have hf : bits .andNot .u64 (a : Int) 9223372036854775808 = (lowW a : Int) := abs_andNot a h
  have e0 : Gn.absW a = if 9218868437227405312 < a % 9223372036854775808 then 9221120237041090561 else lowW a := by
    unfold Gn.absW Gn.canonW lowW; rw [Nat.mod_mod]
  rw [e0]
  by_cases hn : clsN a = 0
  · rw [if_pos ((cls_nan a).1 hn)]
    have hb := nanB_t hn
    clear hn e0
    go_enter Tryz.func62, Tryz.ntmps62
    go_wp2_with (go_at_call 35; refine (risNaN_any _ h _).mono ?_; rintro e w' ⟨rfl, rfl⟩)
    go_ret
    exact ⟨rfl, rfl⟩
  · rw [if_neg (fun k => hn ((cls_nan a).2 k))]
    have hb := nanB_f hn
    clear hn e0
    go_enter Tryz.func62, Tryz.ntmps62
    go_wp2_with (go_at_call 35; refine (risNaN_any _ h _).mono ?_; rintro e w' ⟨rfl, rfl⟩)
    go_ret
    exact ⟨rfl, rfl⟩
theorem rcls_cases (a : Nat) : (decide ((9218868437227405312 : Int) < (lowW a : Int)) = true ∧ clsN a = 0) ∨ (decide ((9218868437227405312 : Int) < (lowW a : Int)) = false ∧ ((lowW a : Int) == 9218868437227405312) = true ∧ clsN a = 1) ∨ (decide ((9218868437227405312 : Int) < (lowW a : Int)) = false ∧ ((lowW a : Int) == 9218868437227405312) = false ∧ ((lowW a : Int) == 0) = true ∧ clsN a = 2) ∨ (decide ((9218868437227405312 : Int) < (lowW a : Int)) = false ∧ ((lowW a : Int) == 9218868437227405312) = false ∧ ((lowW a : Int) == 0) = false ∧ decide ((lowW a : Int) < 4503599627370496) = true ∧ clsN a = 3) ∨ (decide ((9218868437227405312 : Int) < (lowW a : Int)) = false ∧ ((lowW a : Int) == 9218868437227405312) = false ∧ ((lowW a : Int) == 0) = false ∧ decide ((lowW a : Int) < 4503599627370496) = false ∧ clsN a = 4) := by
  have hc : clsN a = if 9218868437227405312 < lowW a then 0 else if lowW a = 9218868437227405312 then 1 else if lowW a = 0 then 2 else if lowW a < 4503599627370496 then 3 else 4 := rfl
  rw [hc]
  generalize lowW a = l
  by_cases h1 : 9218868437227405312 < l
  · rw [if_pos h1]; exact .inl ⟨decide_eq_true (by omega), rfl⟩
  · rw [if_neg h1]
    have b1 : decide ((9218868437227405312 : Int) < (l : Int)) = false := decide_eq_false (by omega)
    by_cases h2 : l = 9218868437227405312
    · rw [if_pos h2]; exact .inr (.inl ⟨b1, beqN_t (y := 9218868437227405312) h2, rfl⟩)
    · rw [if_neg h2]
      have b2 : ((l : Int) == 9218868437227405312) = false := beqN_f (y := 9218868437227405312) h2
      by_cases h3 : l = 0
      · rw [if_pos h3]; exact .inr (.inr (.inl ⟨b1, b2, beqN_t (y := 0) h3, rfl⟩))
      · rw [if_neg h3]
        have b3 : ((l : Int) == 0) = false := beqN_f (y := 0) h3
        by_cases h4 : l < 4503599627370496
        · rw [if_pos h4]; exact .inr (.inr (.inr (.inl ⟨b1, b2, b3, decide_eq_true (by omega), rfl⟩)))
        · rw [if_neg h4]; exact .inr (.inr (.inr (.inr ⟨b1, b2, b3, decide_eq_false (by omega), rfl⟩)))
set_option maxHeartbeats 400000 in
theorem rclass_any (a : Nat) (h : a < 18446744073709551616) (w : World) : Calls Tryz.prog 66 #[.int .u64 (a : Int)] w fun e w' => e = .returned (.int .i64 (clsN a : Int)) ∧ w' = w := by
  have hf : bits .andNot .u64 (a : Int) 9223372036854775808 = (lowW a : Int) := abs_andNot a h
  rcases rcls_cases a with ⟨h1, hc⟩ | ⟨h1, h2, hc⟩ | ⟨h1, h2, h3, hc⟩ | ⟨h1, h2, h3, h4, hc⟩ | ⟨h1, h2, h3, h4, hc⟩
  all_goals
    rw [hc]
    clear hc
    go_enter Tryz.func66, Tryz.ntmps66
    go_wp2
    go_ret
    exact ⟨rfl, rfl⟩
set_option maxHeartbeats 400000 in
theorem rmin_any (a b : Nat) (ha : a < 18446744073709551616) (hb : b < 18446744073709551616) (w : World) : Calls Tryz.prog 56 #[.int .u64 (a : Int), .int .u64 (b : Int)] w fun e w' => e = .returned (.int .u64 (minW a b : Int)) ∧ w' = w := by
  have cases_ : (nanB a = true ∧ minW a b = 9221120237041090561) ∨ (nanB a = false ∧ nanB b = true ∧ minW a b = 9221120237041090561) ∨ (nanB a = false ∧ nanB b = false ∧ ordW a b ≤ 0 ∧ minW a b = a) ∨ (nanB a = false ∧ nanB b = false ∧ 0 < ordW a b ∧ minW a b = b) := by
    unfold minW anyN
    by_cases na : clsN a = 0
    · exact .inl ⟨nanB_t na, by simp [na]⟩
    · by_cases nb : clsN b = 0
      · exact .inr (.inl ⟨nanB_f na, nanB_t nb, by simp [nb]⟩)
      · rw [show (clsN a == 0 || clsN b == 0) = false from by simp [na, nb], if_neg (by simp)]
        by_cases hr : rankW b < rankW a
        · exact .inr (.inr (.inr ⟨nanB_f na, nanB_f nb, ord_pos hr, by rw [if_pos hr]⟩))
        · exact .inr (.inr (.inl ⟨nanB_f na, nanB_f nb, by have := ord_pos' hr; omega, by rw [if_neg hr]⟩))
  rcases cases_ with ⟨h1, hm⟩ | ⟨h1, h2, hm⟩ | ⟨h1, h2, h3, hm⟩ | ⟨h1, h2, h3, hm⟩
  all_goals
    rw [hm]
    clear hm
    go_enter Tryz.func56, Tryz.ntmps56
    go_wp2_with (first | (go_at_call 35; refine (risNaN_any _ (by assumption) _).mono ?_; rintro e w' ⟨rfl, rfl⟩) | (go_at_call 60; refine (rorder_any _ _ (by assumption) (by assumption) _).mono ?_; rintro e w' ⟨rfl, rfl⟩))
    go_ret
    exact ⟨rfl, rfl⟩
set_option maxHeartbeats 400000 in
theorem rmax_any (a b : Nat) (ha : a < 18446744073709551616) (hb : b < 18446744073709551616) (w : World) : Calls Tryz.prog 57 #[.int .u64 (a : Int), .int .u64 (b : Int)] w fun e w' => e = .returned (.int .u64 (maxW a b : Int)) ∧ w' = w := by
  have cases_ : (nanB a = true ∧ maxW a b = 9221120237041090561) ∨ (nanB a = false ∧ nanB b = true ∧ maxW a b = 9221120237041090561) ∨ (nanB a = false ∧ nanB b = false ∧ 0 ≤ ordW a b ∧ maxW a b = a) ∨ (nanB a = false ∧ nanB b = false ∧ ordW a b < 0 ∧ maxW a b = b) := by
    unfold maxW anyN
    by_cases na : clsN a = 0
    · exact .inl ⟨nanB_t na, by simp [na]⟩
    · by_cases nb : clsN b = 0
      · exact .inr (.inl ⟨nanB_f na, nanB_t nb, by simp [nb]⟩)
      · rw [show (clsN a == 0 || clsN b == 0) = false from by simp [na, nb], if_neg (by simp)]
        by_cases hr : rankW a < rankW b
        · exact .inr (.inr (.inr ⟨nanB_f na, nanB_f nb, ord_neg hr, by rw [if_pos hr]⟩))
        · exact .inr (.inr (.inl ⟨nanB_f na, nanB_f nb, by have := ord_neg' hr; omega, by rw [if_neg hr]⟩))
  rcases cases_ with ⟨h1, hm⟩ | ⟨h1, h2, hm⟩ | ⟨h1, h2, h3, hm⟩ | ⟨h1, h2, h3, hm⟩
  all_goals
    rw [hm]
    clear hm
    go_enter Tryz.func57, Tryz.ntmps57
    go_wp2_with (first | (go_at_call 35; refine (risNaN_any _ (by assumption) _).mono ?_; rintro e w' ⟨rfl, rfl⟩) | (go_at_call 60; refine (rorder_any _ _ (by assumption) (by assumption) _).mono ?_; rintro e w' ⟨rfl, rfl⟩))
    go_ret
    exact ⟨rfl, rfl⟩
end Go.Proofs.YthjngodkpldpfaaGreatDoor
end

section
namespace Go.Proofs.YthjngodkpldpfaaGreatDoor
open Go.RowKit

def tkM (a : Nat) : Nat := if fx a = 0 then fm a else fm a + 4503599627370496
def tkE (a : Nat) : Int := if fx a = 0 then -1074 else (fx a : Int) - 1075
theorem half_or (a : Nat) : bits .or .u64 (fm a : Int) 4503599627370496 = ((fm a + 4503599627370496 : Nat) : Int) := by
  have hl : fm a < 4503599627370496 := Nat.mod_lt _ (by decide)
  rw [show (4503599627370496 : Int) = ((4503599627370496 : Nat) : Int) from rfl, u64_or_nat _ _ (by omega) (by omega)]
  have := Nat.two_pow_add_eq_or_of_lt (i := 52) hl 1
  rw [Nat.mul_one] at this
  rw [Nat.or_comm, Nat.add_comm]
  exact congrArg Int.ofNat this.symm
set_option maxHeartbeats 400000 in
theorem taken_as (a m : Nat) (e : Int) (h : a < 18446744073709551616) (hm : tkM a = m) (he : tkE a = e) (w : World) :
    Calls Tryz.prog 64 #[.int .u64 (a : Int)] w fun e' w' => e' = .returned (.tuple #[.int .u64 (m : Int), .int .i64 e]) ∧ w' = w := by
  subst hm; subst he
  have hx := fields_x a h
  have hm := fields_m a h
  have hl : fx a < 2048 := Nat.mod_lt _ (by decide)
  have hw : IntKind.i64.wrap (fx a : Int) = (fx a : Int) := by rw [IntKind.wrap_i64]; omega
  unfold tkM tkE
  by_cases h0 : fx a = 0
  · rw [if_pos h0, if_pos h0]
    have hb : ((fx a : Int) == 0) = true := beqN_t (y := 0) h0
    clear h0 hl
    go_enter Tryz.func64, Tryz.ntmps64
    go_wp2
    go_ret2
    exact ⟨rfl, rfl⟩
  · rw [if_neg h0, if_neg h0]
    have hb : ((fx a : Int) == 0) = false := beqN_f (y := 0) h0
    have ho := half_or a
    have hw2 : IntKind.i64.wrap ((fx a : Int) - 1075) = (fx a : Int) - 1075 := by rw [IntKind.wrap_i64]; omega
    generalize fm a + 4503599627370496 = M at *
    clear h0
    go_enter Tryz.func64, Tryz.ntmps64
    go_wp2
    go_ret2
    exact ⟨rfl, rfl⟩

theorem rounded_t (M x : Nat) (hx : Gn.wd true (Gn.rn (M * Gn.UU)) = x) (h0 : M ≠ 0) (hM : M < 9007199254740992) (w : World) :
    Calls Tryz.prog 97 #[.int .u64 9223372036854775808, .agg #[.int .u64 0, .int .u64 (M : Int)], .int .i64 0, .bool false] w fun e' w' => e' = .returned (.int .u64 (x : Int)) ∧ Below w.heap.size w w' := by
  subst hx; exact rounded_M true M h0 hM w
theorem rounded_f (M x : Nat) (hx : Gn.wd false (Gn.rn (M * Gn.UU)) = x) (h0 : M ≠ 0) (hM : M < 9007199254740992) (w : World) :
    Calls Tryz.prog 97 #[.int .u64 0, .agg #[.int .u64 0, .int .u64 (M : Int)], .int .i64 0, .bool false] w fun e' w' => e' = .returned (.int .u64 (x : Int)) ∧ Below w.heap.size w w' := by
  subst hx; exact rounded_M false M h0 hM w

set_option maxHeartbeats 400000 in
theorem rfloor_nan (a : Nat) (h : a < 18446744073709551616) (hb : nanB a = true) (w : World) :
    Calls Tryz.prog 63 #[.int .u64 (a : Int)] w fun e w' => e = .returned (.int .u64 9221120237041090561) ∧ Below w.heap.size w w' := by
  go_enter Tryz.func63, Tryz.ntmps63
  go_wp2_with (go_at_call 35; refine (risNaN_any _ h _).mono ?_; rintro e w' ⟨rfl, rfl⟩)
  go_ret
  exact ⟨rfl, Below.refl _ _⟩
set_option maxHeartbeats 400000 in
theorem rfloor_self (a : Nat) (h : a < 18446744073709551616) (hb : nanB a = false) (hf : bits .andNot .u64 (a : Int) 9223372036854775808 = (lowW a : Int)) (hs : ((lowW a : Int) == 9218868437227405312 || (lowW a : Int) == 0) = true) (w : World) :
    Calls Tryz.prog 63 #[.int .u64 (a : Int)] w fun e w' => e = .returned (.int .u64 (a : Int)) ∧ Below w.heap.size w w' := by
  go_enter Tryz.func63, Tryz.ntmps63
  rcases Bool.or_eq_true_iff.1 hs with k | k
  · clear hs
    go_wp2_with (go_at_call 35; refine (risNaN_any _ h _).mono ?_; rintro e w' ⟨rfl, rfl⟩)
    go_ret
    exact ⟨rfl, Below.refl _ _⟩
  · have k2 : ((lowW a : Int) == 9218868437227405312) = false := by rw [beq_eq_false_iff_ne]; have := beq_iff_eq.1 k; omega
    clear hs
    go_wp2_with (go_at_call 35; refine (risNaN_any _ h _).mono ?_; rintro e w' ⟨rfl, rfl⟩)
    go_ret
    exact ⟨rfl, Below.refl _ _⟩
set_option maxHeartbeats 400000 in
theorem rfloor_whole (a m d : Nat) (h : a < 18446744073709551616) (hb : nanB a = false) (hf : bits .andNot .u64 (a : Int) 9223372036854775808 = (lowW a : Int)) (k1 : ((lowW a : Int) == 9218868437227405312) = false) (k2 : ((lowW a : Int) == 0) = false) (hm : tkM a = m) (he : tkE a = (d : Int)) (w : World) :
    Calls Tryz.prog 63 #[.int .u64 (a : Int)] w fun e w' => e = .returned (.int .u64 (a : Int)) ∧ Below w.heap.size w w' := by
  go_enter Tryz.func63, Tryz.ntmps63
  go_wp2_with (first | (go_at_call 35; refine (risNaN_any _ h _).mono ?_; rintro e w' ⟨rfl, rfl⟩) | (go_at_call 64; refine (taken_as a m _ h hm he _).mono ?_; rintro e w' ⟨rfl, rfl⟩))
  go_ret
  exact ⟨rfl, Below.refl _ _⟩
set_option maxHeartbeats 400000 in
theorem rfloor_tiny_f (a m d : Nat) (h : a < 18446744073709551616) (hb : nanB a = false) (hf : bits .andNot .u64 (a : Int) 9223372036854775808 = (lowW a : Int)) (k1 : ((lowW a : Int) == 9218868437227405312) = false) (k2 : ((lowW a : Int) == 0) = false) (hm : tkM a = m) (he : tkE a = -(d : Int)) (h1 : (64 : Int) ≤ (d : Int)) (hs : bits .and .u64 (a : Int) 9223372036854775808 = 0) (w : World) :
    Calls Tryz.prog 63 #[.int .u64 (a : Int)] w fun e w' => e = .returned (.int .u64 0) ∧ Below w.heap.size w w' := by
  have h2 : ¬ (0 : Int) ≤ -(d : Int) := by omega
  have h3 : ¬ (-64 : Int) < -(d : Int) := by omega
  go_enter Tryz.func63, Tryz.ntmps63
  go_wp2_with (first | (go_at_call 35; refine (risNaN_any _ h _).mono ?_; rintro e w' ⟨rfl, rfl⟩) | (go_at_call 64; refine (taken_as a m _ h hm he _).mono ?_; rintro e w' ⟨rfl, rfl⟩))
  go_ret
  exact ⟨rfl, Below.refl _ _⟩
/-- what rounded answers, as one fact -/
structure Rnd (s M : Int) (x : Nat) : Prop where
  run : ∀ w : World, Calls Tryz.prog 97 #[.int .u64 s, .agg #[.int .u64 0, .int .u64 M], .int .i64 0, .bool false] w fun e' w' => e' = .returned (.int .u64 (x : Int)) ∧ Below w.heap.size w w'
set_option maxHeartbeats 400000 in
theorem rfloor_tiny_t (a m d x : Nat) (h : a < 18446744073709551616) (hb : nanB a = false) (hf : bits .andNot .u64 (a : Int) 9223372036854775808 = (lowW a : Int)) (k1 : ((lowW a : Int) == 9218868437227405312) = false) (k2 : ((lowW a : Int) == 0) = false) (hm : tkM a = m) (he : tkE a = -(d : Int)) (hR : Rnd 9223372036854775808 1 x) (h1 : (64 : Int) ≤ (d : Int)) (hs : bits .and .u64 (a : Int) 9223372036854775808 = 9223372036854775808) (w : World) :
    Calls Tryz.prog 63 #[.int .u64 (a : Int)] w fun e w' => e = .returned (.int .u64 (x : Int)) ∧ Below w.heap.size w w' := by
  have h2 : ¬ (0 : Int) ≤ -(d : Int) := by omega
  have h3 : ¬ (-64 : Int) < -(d : Int) := by omega
  go_enter Tryz.func63, Tryz.ntmps63
  go_wp2_with (first | (go_at_call 35; refine (risNaN_any _ h _).mono ?_; rintro e w' ⟨rfl, rfl⟩) | (go_at_call 64; refine (taken_as a m _ h hm he _).mono ?_; rintro e w' ⟨rfl, rfl⟩))
  refine (hR.run _).mono ?_
  rintro e' w1 ⟨rfl, hb1⟩
  go_wp2_with fail
  go_ret
  exact ⟨rfl, hb1⟩
set_option maxHeartbeats 400000 in
theorem rfloor_tt (a m d n k F x : Nat) (h : a < 18446744073709551616) (hb : nanB a = false) (hf : bits .andNot .u64 (a : Int) 9223372036854775808 = (lowW a : Int)) (k1 : ((lowW a : Int) == 9218868437227405312) = false) (k2 : ((lowW a : Int) == 0) = false) (hm : tkM a = m) (he : tkE a = -(d : Int)) (hR : Rnd 9223372036854775808 (F : Int) x) (h1 : (1 : Int) ≤ (d : Int)) (h2 : (d : Int) < 64) (hsh : (m : Int) / 2 ^ d = (n : Int)) (hbk : IntKind.u64.wrap ((n : Int) * 2 ^ d) = (k : Int)) (hs : bits .and .u64 (a : Int) 9223372036854775808 = 9223372036854775808) (hr : ((k : Int) != (m : Int)) = true) (hF : IntKind.u64.wrap ((n : Int) + 1) = (F : Int)) (hF0 : ((F : Int) == 0) = false) (w : World) :
    Calls Tryz.prog 63 #[.int .u64 (a : Int)] w fun e w' => e = .returned (.int .u64 (x : Int)) ∧ Below w.heap.size w w' := by
  have h3 : ¬ (0 : Int) ≤ -(d : Int) := by omega
  have h4 : (-64 : Int) < -(d : Int) := by omega
  go_enter Tryz.func63, Tryz.ntmps63
  go_wp2_with (first | (go_at_call 35; refine (risNaN_any _ h _).mono ?_; rintro e w' ⟨rfl, rfl⟩) | (go_at_call 64; refine (taken_as a m _ h hm he _).mono ?_; rintro e w' ⟨rfl, rfl⟩))
  refine (hR.run _).mono ?_
  rintro e' w1 ⟨rfl, hb1⟩
  go_wp2_with fail
  go_ret
  exact ⟨rfl, hb1⟩
set_option maxHeartbeats 400000 in
theorem rfloor_tf (a m d n k x : Nat) (h : a < 18446744073709551616) (hb : nanB a = false) (hf : bits .andNot .u64 (a : Int) 9223372036854775808 = (lowW a : Int)) (k1 : ((lowW a : Int) == 9218868437227405312) = false) (k2 : ((lowW a : Int) == 0) = false) (hm : tkM a = m) (he : tkE a = -(d : Int)) (hR : Rnd 9223372036854775808 (n : Int) x) (h1 : (1 : Int) ≤ (d : Int)) (h2 : (d : Int) < 64) (hsh : (m : Int) / 2 ^ d = (n : Int)) (hbk : IntKind.u64.wrap ((n : Int) * 2 ^ d) = (k : Int)) (hs : bits .and .u64 (a : Int) 9223372036854775808 = 9223372036854775808) (hr : ((k : Int) != (m : Int)) = false) (hF0 : ((n : Int) == 0) = false) (w : World) :
    Calls Tryz.prog 63 #[.int .u64 (a : Int)] w fun e w' => e = .returned (.int .u64 (x : Int)) ∧ Below w.heap.size w w' := by
  have h3 : ¬ (0 : Int) ≤ -(d : Int) := by omega
  have h4 : (-64 : Int) < -(d : Int) := by omega
  go_enter Tryz.func63, Tryz.ntmps63
  go_wp2_with (first | (go_at_call 35; refine (risNaN_any _ h _).mono ?_; rintro e w' ⟨rfl, rfl⟩) | (go_at_call 64; refine (taken_as a m _ h hm he _).mono ?_; rintro e w' ⟨rfl, rfl⟩))
  refine (hR.run _).mono ?_
  rintro e' w1 ⟨rfl, hb1⟩
  go_wp2_with fail
  go_ret
  exact ⟨rfl, hb1⟩
set_option maxHeartbeats 400000 in
theorem rfloor_f0 (a m d n k : Nat) (h : a < 18446744073709551616) (hb : nanB a = false) (hf : bits .andNot .u64 (a : Int) 9223372036854775808 = (lowW a : Int)) (k1 : ((lowW a : Int) == 9218868437227405312) = false) (k2 : ((lowW a : Int) == 0) = false) (hm : tkM a = m) (he : tkE a = -(d : Int)) (h1 : (1 : Int) ≤ (d : Int)) (h2 : (d : Int) < 64) (hsh : (m : Int) / 2 ^ d = (n : Int)) (hbk : IntKind.u64.wrap ((n : Int) * 2 ^ d) = (k : Int)) (hs : bits .and .u64 (a : Int) 9223372036854775808 = 0) (hF0 : ((n : Int) == 0) = true) (w : World) :
    Calls Tryz.prog 63 #[.int .u64 (a : Int)] w fun e w' => e = .returned (.int .u64 0) ∧ Below w.heap.size w w' := by
  have h3 : ¬ (0 : Int) ≤ -(d : Int) := by omega
  have h4 : (-64 : Int) < -(d : Int) := by omega
  go_enter Tryz.func63, Tryz.ntmps63
  go_wp2_with (first | (go_at_call 35; refine (risNaN_any _ h _).mono ?_; rintro e w' ⟨rfl, rfl⟩) | (go_at_call 64; refine (taken_as a m _ h hm he _).mono ?_; rintro e w' ⟨rfl, rfl⟩))
  go_ret
  exact ⟨rfl, Below.refl _ _⟩
set_option maxHeartbeats 400000 in
theorem rfloor_fn (a m d n k x : Nat) (h : a < 18446744073709551616) (hb : nanB a = false) (hf : bits .andNot .u64 (a : Int) 9223372036854775808 = (lowW a : Int)) (k1 : ((lowW a : Int) == 9218868437227405312) = false) (k2 : ((lowW a : Int) == 0) = false) (hm : tkM a = m) (he : tkE a = -(d : Int)) (hR : Rnd 0 (n : Int) x) (h1 : (1 : Int) ≤ (d : Int)) (h2 : (d : Int) < 64) (hsh : (m : Int) / 2 ^ d = (n : Int)) (hbk : IntKind.u64.wrap ((n : Int) * 2 ^ d) = (k : Int)) (hs : bits .and .u64 (a : Int) 9223372036854775808 = 0) (hF0 : ((n : Int) == 0) = false) (w : World) :
    Calls Tryz.prog 63 #[.int .u64 (a : Int)] w fun e w' => e = .returned (.int .u64 (x : Int)) ∧ Below w.heap.size w w' := by
  have h3 : ¬ (0 : Int) ≤ -(d : Int) := by omega
  have h4 : (-64 : Int) < -(d : Int) := by omega
  go_enter Tryz.func63, Tryz.ntmps63
  go_wp2_with (first | (go_at_call 35; refine (risNaN_any _ h _).mono ?_; rintro e w' ⟨rfl, rfl⟩) | (go_at_call 64; refine (taken_as a m _ h hm he _).mono ?_; rintro e w' ⟨rfl, rfl⟩))
  refine (hR.run _).mono ?_
  rintro e' w1 ⟨rfl, hb1⟩
  go_wp2_with fail
  go_ret
  exact ⟨rfl, hb1⟩
end Go.Proofs.YthjngodkpldpfaaGreatDoor
end

section
namespace Go.Proofs.YthjngodkpldpfaaGreatDoor
open Go.RowKit
open Gn

theorem tk_wd (s : Bool) (r : Nat) (hr : r < 9218868437227405312) : tkM (wd s r) = mg r ∧ tkE (wd s r) = (ex r : Int) - 1074 := by
  have e1 : fx (wd s r) = r / 4503599627370496 := by
    unfold fx wd; cases s
    · rw [if_neg (by simp)]; omega
    · rw [if_pos rfl]; omega
  have e2 : fm (wd s r) = r % 4503599627370496 := by
    unfold fm wd; cases s
    · rw [if_neg (by simp)]
    · rw [if_pos rfl]; omega
  unfold tkM tkE mg ex
  rw [e1, e2]
  by_cases h : r < 4503599627370496
  · have h0 : r / 4503599627370496 = 0 := by omega
    simp only [if_pos h0, if_pos h]; omega
  · have h0 : ¬ r / 4503599627370496 = 0 := by omega
    simp only [if_neg h0, if_neg h]; omega
theorem flN_mid (s : Bool) (r d : Nat) (hd : ex r + d = 1074) : flN s (vl r) = mg r / 2 ^ d + (s && mg r % 2 ^ d != 0).toNat := by
  unfold flN
  have hp := Nat.two_pow_pos (ex r)
  have hU : UU = 2 ^ d * 2 ^ ex r := by rw [← UU_def, ← hd, Nat.pow_add, Nat.mul_comm]
  rw [vl_mg, hU, Nat.mul_div_mul_right _ _ hp, Nat.mul_mod_mul_right]
  have : (mg r % 2 ^ d * 2 ^ ex r != 0) = (mg r % 2 ^ d != 0) := by
    generalize mg r % 2 ^ d = z
    by_cases hz : z = 0
    · subst hz; simp
    · rw [bne_iff_ne.2 hz, bne_iff_ne.2 (Nat.mul_ne_zero hz (by omega))]
  rw [this]
theorem floorW_num (s : Bool) (r : Nat) (h : r < 9218868437227405312) : floorW (wd s r) = wd s (rn (flN s (vl r) * UU)) := by
  unfold floorW; rw [wd_mod s r (by omega), if_neg (by omega), flr_wd s r h]
theorem rn_nought : rn (0 * UU) = 0 := by rw [Nat.zero_mul, ← vl_zero]; exact rn_vl (by decide)
theorem rnd_t (M : Nat) (h0 : M ≠ 0) (hM : M < 9007199254740992) : Rnd 9223372036854775808 (M : Int) (wd true (rn (M * UU))) := ⟨fun w => rounded_t M _ rfl h0 hM w⟩
theorem rnd_f (M : Nat) (h0 : M ≠ 0) (hM : M < 9007199254740992) : Rnd 0 (M : Int) (wd false (rn (M * UU))) := ⟨fun w => rounded_f M _ rfl h0 hM w⟩
theorem top_wd (s : Bool) (r : Nat) (hr : r < 9223372036854775808) : bits .and .u64 (wd s r : Int) 9223372036854775808 = if s then 9223372036854775808 else 0 := by
  rw [top_and _ (wd_lt s r hr)]
  cases s
  · rw [if_pos (by unfold wd; rw [if_neg (by simp)]; exact hr)]; rfl
  · rw [if_neg (by unfold wd; rw [if_pos rfl]; omega)]; rfl

theorem rfloor_any (a : Nat) (h : a < 18446744073709551616) (w : World) :
    Calls Tryz.prog 63 #[.int .u64 (a : Int)] w fun e w' => e = .returned (.int .u64 (floorW a : Int)) ∧ Below w.heap.size w w' := by
  have hf : bits .andNot .u64 (a : Int) 9223372036854775808 = (lowW a : Int) := abs_andNot a h
  obtain ⟨s, r, hr, rfl⟩ := wd_cases a h
  have hl : lowW (wd s r) = r := wd_mod s r hr
  by_cases hn : 9218868437227405312 < r
  · have e : floorW (wd s r) = 9221120237041090561 := by unfold floorW; rw [wd_mod s r hr, if_pos hn]
    rw [e]
    exact rfloor_nan _ h (nanB_t ((cls_nan _).2 (by rw [wd_mod s r hr]; exact hn))) w
  · have hb : nanB (wd s r) = false := nanB_f (fun k => hn (by have := (cls_nan _).1 k; rwa [wd_mod s r hr] at this))
    by_cases hi : r = 9218868437227405312
    · have e : floorW (wd s r) = wd s r := by
        unfold floorW; rw [wd_mod s r hr, if_neg hn, hi]; exact flr_inf s
      rw [e]
      refine rfloor_self _ h hb hf ?_ w
      rw [hl, show ((r : Int) == 9218868437227405312) = true from beqN_t (y := 9218868437227405312) hi]; rfl
    · by_cases hz : r = 0
      · have e : floorW (wd s r) = wd s r := by
          rw [floorW_num s r (by omega), hz, vl_zero, show flN s 0 = 0 from by unfold flN; simp, rn_nought]
        rw [e]
        refine rfloor_self _ h hb hf ?_ w
        rw [hl, show ((r : Int) == 0) = true from beqN_t (y := 0) hz, Bool.or_true]
      · have hR : r < 9218868437227405312 := by omega
        have k1 : ((lowW (wd s r) : Int) == 9218868437227405312) = false := by rw [hl]; exact beqN_f (y := 9218868437227405312) hi
        have k2 : ((lowW (wd s r) : Int) == 0) = false := by rw [hl]; exact beqN_f (y := 0) hz
        obtain ⟨tm, te⟩ := tk_wd s r hR
        rw [floorW_num s r hR]
        by_cases hE : 1074 ≤ ex r
        · rw [flN_whole s (by rw [vl_mg, show ex r = 1074 + (ex r - 1074) from by omega]; exact mul_mod_UU _ _), rn_vl hR]
          exact rfloor_whole _ _ (ex r - 1074) h hb hf k1 k2 tm (by rw [te]; omega) w
        · obtain ⟨d, hd⟩ : ∃ d, ex r + d = 1074 := ⟨1074 - ex r, by omega⟩
          have te2 : tkE (wd s r) = -(d : Int) := by rw [te]; omega
          rw [flN_mid s r d hd]
          have hm0 : mg r ≠ 0 := by
            intro k; have := vl_pos (r := r) (by omega); rw [vl_mg, k, Nat.zero_mul] at this; omega
          have hml := mg_lt r
          have hs := top_wd s r hr
          have hp := Nat.two_pow_pos d
          have hdm := Nat.div_add_mod (mg r) (2 ^ d)
          by_cases hbig : 64 ≤ d
          · have h64 : mg r < 2 ^ d := Nat.lt_of_lt_of_le (by omega) (Nat.pow_le_pow_right (by omega) hbig : 2 ^ 64 ≤ 2 ^ d)
            rw [Nat.div_eq_of_lt h64, Nat.mod_eq_of_lt h64, bne_iff_ne.2 hm0, Nat.zero_add, Bool.and_true]
            cases s
            · rw [show (false).toNat = 0 from rfl, rn_nought]
              exact rfloor_tiny_f _ _ d h hb hf k1 k2 tm te2 (by omega) hs w
            · rw [show (true).toNat = 1 from rfl]
              exact rfloor_tiny_t _ _ d _ h hb hf k1 k2 tm te2 (rnd_t 1 (by decide) (by decide)) (by omega) hs w
          · have hsh : (mg r : Int) / 2 ^ d = ((mg r / 2 ^ d : Nat) : Int) := by simp
            have hle : mg r / 2 ^ d * 2 ^ d ≤ mg r := Nat.div_mul_le_self _ _
            have hbk : IntKind.u64.wrap (((mg r / 2 ^ d : Nat) : Int) * 2 ^ d) = ((mg r / 2 ^ d * 2 ^ d : Nat) : Int) := by
              rw [← wrap_nat (mg r / 2 ^ d * 2 ^ d) (by omega)]; simp
            have hd1 : 1 ≤ d := by omega
            have hn2 : mg r / 2 ^ d < 4503599627370496 := by
              refine (Nat.div_lt_iff_lt_mul hp).2 ?_
              have := Nat.pow_le_pow_right (n := 2) (by omega) hd1
              omega
            rw [Nat.mul_comm] at hdm
            cases s
            · rw [Bool.false_and, show (false).toNat = 0 from rfl, Nat.add_zero]
              by_cases h0 : mg r / 2 ^ d = 0
              · rw [h0, rn_nought]
                exact rfloor_f0 _ _ d _ _ h hb hf k1 k2 tm te2 (by omega) (by omega) hsh hbk hs (beqN_t (y := 0) h0) w
              · exact rfloor_fn _ _ d _ _ _ h hb hf k1 k2 tm te2 (rnd_f _ h0 (by omega)) (by omega) (by omega) hsh hbk hs (beqN_f (y := 0) h0) w
            · rw [Bool.true_and]
              by_cases hz2 : mg r % 2 ^ d = 0
              · have h0 : mg r / 2 ^ d ≠ 0 := by intro k; rw [k, hz2] at hdm; omega
                rw [bne_eq_false_iff_eq.2 hz2, show (false).toNat = 0 from rfl, Nat.add_zero]
                exact rfloor_tf _ _ d _ _ _ h hb hf k1 k2 tm te2 (rnd_t _ h0 (by omega)) (by omega) (by omega) hsh hbk hs (bneN_f (by omega)) (beqN_f (y := 0) h0) w
              · rw [bne_iff_ne.2 hz2, show (true).toNat = 1 from rfl]
                exact rfloor_tt _ _ d _ _ (mg r / 2 ^ d + 1) _ h hb hf k1 k2 tm te2 (rnd_t (mg r / 2 ^ d + 1) (Nat.succ_ne_zero _) (by omega)) (by omega) (by omega) hsh hbk hs (bneN_t (x := mg r / 2 ^ d * 2 ^ d) (y := mg r) (by omega)) (by rw [← wrap_nat (mg r / 2 ^ d + 1) (by omega)]; simp) (beqN_f (y := 0) (Nat.succ_ne_zero _)) w
end Go.Proofs.YthjngodkpldpfaaGreatDoor
end
