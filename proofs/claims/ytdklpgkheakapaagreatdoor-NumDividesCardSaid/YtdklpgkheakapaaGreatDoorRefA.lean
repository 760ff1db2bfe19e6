import Derived.Test.YtdklpgkheakapaaGreatDoorOrdF
import Derived.Test.YtdklpgkheakapaaGreatDoorWalkJ
namespace Go.Proofs.YtdklpgkheakapaaGreatDoor
open Go.RowKit

def nanB (a : Nat) : Bool := decide (9218868437227405312 < lowW a)
theorem nanB_t {a : Nat} (h : clsN a = 0) : nanB a = true := by unfold nanB; exact decide_eq_true ((cls_nan a).1 h)
theorem nanB_f {a : Nat} (h : clsN a ≠ 0) : nanB a = false := by unfold nanB; exact decide_eq_false (fun k => h ((cls_nan a).2 k))
set_option maxHeartbeats 400000 in
theorem risNaN_any (a : Nat) (h : a < 18446744073709551616) (w : World) : Calls Tryz.prog 53 #[.int .u64 (a : Int)] w fun e w' => e = .returned (.bool (nanB a)) ∧ w' = w := by
  have hf : bits .andNot .u64 (a : Int) 9223372036854775808 = (lowW a : Int) := abs_andNot a h
  by_cases hn : 9218868437227405312 < lowW a
  · rw [show nanB a = true from decide_eq_true hn]
    go_enter Tryz.func53, Tryz.ntmps53
    go_wp2
    go_ret
    exact ⟨congrArg (fun b => Ending.returned (.bool b)) (by simp; omega), rfl⟩
  · rw [show nanB a = false from decide_eq_false hn]
    go_enter Tryz.func53, Tryz.ntmps53
    go_wp2
    go_ret
    exact ⟨congrArg (fun b => Ending.returned (.bool b)) (by simp; omega), rfl⟩
def rrankW (a : Nat) : Nat := if nanB a then 18442240474082181121 else rankW a
theorem rank_num {a : Nat} (h : clsN a ≠ 0) : rankW a = if a < 9223372036854775808 then a + 9223372036854775808 else 18446744073709551615 - a := by
  unfold rankW
  have : Gn.canonW a = a := by unfold Gn.canonW; rw [if_neg (fun k => h ((cls_nan a).2 k))]
  rw [this]
set_option maxHeartbeats 400000 in
theorem rrank_any (a : Nat) (h : a < 18446744073709551616) (w : World) : Calls Tryz.prog 59 #[.int .u64 (a : Int)] w fun e w' => e = .returned (.int .u64 (rrankW a : Int)) ∧ w' = w := by
  unfold rrankW
  by_cases hn : clsN a = 0
  · have hb := nanB_t hn
    rw [hb, if_pos rfl]
    clear hn
    go_enter Tryz.func59, Tryz.ntmps59
    go_wp2_with (go_at_call 53; refine (risNaN_any _ h _).mono ?_; rintro e w' ⟨rfl, rfl⟩)
    go_ret
    exact ⟨rfl, rfl⟩
  · have hb := nanB_f hn
    rw [hb, if_neg (by simp), rank_num hn]
    clear hn
    have ha := top_and a h
    by_cases hc : a < 9223372036854775808
    · rw [if_pos hc] at *
      have ho := top_or a hc
      generalize a + 9223372036854775808 = r at *
      go_enter Tryz.func59, Tryz.ntmps59
      go_wp2_with (go_at_call 53; refine (risNaN_any _ h _).mono ?_; rintro e w' ⟨rfl, rfl⟩)
      go_ret
      exact ⟨rfl, rfl⟩
    · rw [if_neg hc] at *
      have ho := not_u64 a h
      have hsg : IntKind.u64.signed = false := rfl
      generalize 18446744073709551615 - a = r at *
      go_enter Tryz.func59, Tryz.ntmps59
      go_wp2_with (go_at_call 53; refine (risNaN_any _ h _).mono ?_; rintro e w' ⟨rfl, rfl⟩)
      go_ret
      exact ⟨rfl, rfl⟩

theorem rank_lt_nan {a b : Nat} (ha : a < 18446744073709551616) (na : clsN a ≠ 0) (nb : clsN b = 0) : rankW a < rankW b := by
  obtain ⟨s, r, hr, rfl⟩ := num_wd a ha na
  have hb : rankW b = 18444492273895866369 := by
    unfold rankW
    have : Gn.canonW b = 9221120237041090561 := by unfold Gn.canonW; rw [if_pos ((cls_nan b).1 nb)]
    rw [this]; rfl
  rw [hb]
  cases s
  · rw [rank_f hr]; omega
  · rw [rank_t hr]; omega
theorem rank_nn {a b : Nat} (na : clsN a = 0) (nb : clsN b = 0) : rankW a = rankW b := by
  unfold rankW
  have e1 : Gn.canonW b = 9221120237041090561 := by unfold Gn.canonW; rw [if_pos ((cls_nan b).1 nb)]
  have e2 : Gn.canonW a = 9221120237041090561 := by unfold Gn.canonW; rw [if_pos ((cls_nan a).1 na)]
  rw [e1, e2]
theorem rank_num_lt {a : Nat} (ha : a < 18446744073709551616) (na : clsN a ≠ 0) : rankW a < 18442240474082181121 := by
  obtain ⟨s, r, hr, rfl⟩ := num_wd a ha na
  cases s
  · rw [rank_f hr]; omega
  · rw [rank_t hr]; omega
theorem rrank_cmp {a b : Nat} (ha : a < 18446744073709551616) (hb : b < 18446744073709551616) : cmpW (rrankW a) (rrankW b) = ordW a b := by
  unfold ordW
  by_cases na : clsN a = 0
  · by_cases nb : clsN b = 0
    · unfold rrankW; rw [nanB_t na, nanB_t nb, if_pos rfl, if_pos rfl, rank_nn na nb]; unfold cmpW; simp
    · unfold rrankW; rw [nanB_t na, nanB_f nb, if_pos rfl, if_neg (by simp)]
      have h1 := rank_num_lt hb nb
      have h2 := rank_lt_nan hb nb na
      unfold cmpW; rw [if_neg (by omega), if_pos h1, if_neg (by omega), if_pos h2]
  · by_cases nb : clsN b = 0
    · unfold rrankW; rw [nanB_f na, nanB_t nb, if_pos rfl, if_neg (by simp)]
      have h1 := rank_num_lt ha na
      have h2 := rank_lt_nan ha na nb
      unfold cmpW; rw [if_pos h1, if_pos h2]
    · unfold rrankW; rw [nanB_f na, nanB_f nb, if_neg (by simp), if_neg (by simp)]
set_option maxHeartbeats 400000 in
theorem rorder_any (a b : Nat) (ha : a < 18446744073709551616) (hb : b < 18446744073709551616) (w : World) : Calls Tryz.prog 37 #[.int .u64 (a : Int), .int .u64 (b : Int)] w fun e w' => e = .returned (.int .i64 (ordW a b)) ∧ w' = w := by
  rw [← rrank_cmp ha hb]
  unfold cmpW
  by_cases h1 : rrankW a < rrankW b
  · rw [if_pos h1]
    go_enter Tryz.func37, Tryz.ntmps37
    go_wp2_with (go_at_call 59; refine (rrank_any _ (by assumption) _).mono ?_; rintro e w' ⟨rfl, rfl⟩)
    go_ret
    exact ⟨rfl, rfl⟩
  · rw [if_neg h1]
    by_cases h2 : rrankW b < rrankW a
    · rw [if_pos h2]
      go_enter Tryz.func37, Tryz.ntmps37
      go_wp2_with (go_at_call 59; refine (rrank_any _ (by assumption) _).mono ?_; rintro e w' ⟨rfl, rfl⟩)
      go_ret
      exact ⟨rfl, rfl⟩
    · rw [if_neg h2]
      go_enter Tryz.func37, Tryz.ntmps37
      go_wp2_with (go_at_call 59; refine (rrank_any _ (by assumption) _).mono ?_; rintro e w' ⟨rfl, rfl⟩)
      go_ret
      exact ⟨rfl, rfl⟩
end Go.Proofs.YtdklpgkheakapaaGreatDoor
