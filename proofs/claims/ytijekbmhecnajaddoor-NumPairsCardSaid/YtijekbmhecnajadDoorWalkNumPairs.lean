import Derived.Test.YtijekbmhecnajadDoorWalkJ
namespace Go.Proofs.YtijekbmhecnajadDoor
open Go.RowKit

theorem rank_inj {a b : Nat} (ha : a < 18446744073709551616) (hb : b < 18446744073709551616) (na : clsN a ≠ 0) (nb : clsN b ≠ 0) (h : rankW a = rankW b) : a = b := by
  have ca : Gn.canonW a = a := by unfold Gn.canonW; rw [if_neg (fun h => na ((cls_nan a).2 h))]
  have cb : Gn.canonW b = b := by unfold Gn.canonW; rw [if_neg (fun h => nb ((cls_nan b).2 h))]
  unfold rankW at h
  rw [ca, cb] at h
  by_cases h1 : a < 9223372036854775808
  · by_cases h2 : b < 9223372036854775808
    · rw [if_pos h1, if_pos h2] at h; omega
    · rw [if_pos h1, if_neg h2] at h; omega
  · by_cases h2 : b < 9223372036854775808
    · rw [if_neg h1, if_pos h2] at h; omega
    · rw [if_neg h1, if_neg h2] at h; omega
theorem any_f {a b : Nat} (na : clsN a ≠ 0) (nb : clsN b ≠ 0) : anyN a b = false := by unfold anyN; simp [na, nb]
theorem any_t1 {a b : Nat} (na : clsN a = 0) : anyN a b = true := by unfold anyN; simp [na]
theorem any_t2 {a b : Nat} (nb : clsN b = 0) : anyN a b = true := by unfold anyN; simp [nb]
theorem min_le {a b : Nat} (h : rankW a ≤ rankW b) (hn : anyN a b = false) : minW a b = a := by
  unfold minW; rw [hn, if_neg (by simp), if_neg (by omega)]
theorem min_ge {a b : Nat} (h : rankW b < rankW a) (hn : anyN a b = false) : minW a b = b := by
  unfold minW; rw [hn, if_neg (by simp), if_pos h]
theorem max_ge {a b : Nat} (h : rankW b ≤ rankW a) (hn : anyN a b = false) : maxW a b = a := by
  unfold maxW; rw [hn, if_neg (by simp), if_neg (by omega)]
theorem max_le {a b : Nat} (h : rankW a < rankW b) (hn : anyN a b = false) : maxW a b = b := by
  unfold maxW; rw [hn, if_neg (by simp), if_pos h]
theorem ord_le {a b : Nat} (h : rankW a ≤ rankW b) : ordW a b ≤ 0 := by unfold ordW cmpW; split; omega; rw [if_neg (by omega)]; omega

set_option maxHeartbeats 1000000 in
theorem numPairs_nan (a : Nat) (ha : a < 18446744073709551616) (b : Nat) (hb : b < 18446744073709551616) (hn : clsN a = 0 ∨ clsN b = 0) (w : World) (hT : TabC w) :
    Calls Tryd.prog 3 #[.int .u64 (a : Int), .int .u64 (b : Int)] w fun e w' => e = .returned (.bool true) ∧ Below w.heap.size w w' := by
  have hA : anyN a b = true := by rcases hn with h | h; exact any_t1 h; exact any_t2 h
  have hx : (minW a b : Int) = 9221120237041090561 := by unfold minW; rw [hA, if_pos rfl]; rfl
  have hy : (maxW a b : Int) = 9221120237041090561 := by unfold maxW; rw [hA, if_pos rfl]; rfl
  by_cases h1 : clsN a = 0
  · have c1 : ((clsN a : Int) == 0) = true := beqN_t (y := 0) h1
    clear h1 hn hA
    go_enter Tryd.func3, Tryd.ntmps3
    go_wp2_with (first
      | (go_at_call 5; refine (min_any a b ha hb _).mono ?_; rintro e w1 ⟨rfl, rfl⟩)
      | (go_at_call 6; refine (max_any a b ha hb _).mono ?_; rintro e w1 ⟨rfl, rfl⟩)
      | (go_at_call 7; refine (awake_true _ hT).mono ?_; rintro e w2 ⟨rfl, hb2⟩)
      | (go_at_call 8; refine (class_any _ (by assumption) _).mono ?_; rintro e w1 ⟨rfl, rfl⟩))
    go_ret
    exact ⟨rfl, hb2⟩
  · have h2 : clsN b = 0 := by rcases hn with h | h; exact absurd h h1; exact h
    have c1 : ((clsN a : Int) == 0) = false := beqN_f (y := 0) h1
    have c2 : ((clsN b : Int) == 0) = true := beqN_t (y := 0) h2
    clear h1 hn hA h2
    go_enter Tryd.func3, Tryd.ntmps3
    go_wp2_with (first
      | (go_at_call 5; refine (min_any a b ha hb _).mono ?_; rintro e w1 ⟨rfl, rfl⟩)
      | (go_at_call 6; refine (max_any a b ha hb _).mono ?_; rintro e w1 ⟨rfl, rfl⟩)
      | (go_at_call 7; refine (awake_true _ hT).mono ?_; rintro e w2 ⟨rfl, hb2⟩)
      | (go_at_call 8; refine (class_any _ (by assumption) _).mono ?_; rintro e w1 ⟨rfl, rfl⟩))
    go_ret
    exact ⟨rfl, hb2⟩

set_option maxHeartbeats 1000000 in
theorem numPairs_le (a : Nat) (ha : a < 18446744073709551616) (b : Nat) (hb : b < 18446744073709551616) (na : clsN a ≠ 0) (nb : clsN b ≠ 0) (hr : rankW a < rankW b) (w : World) (hT : TabC w) :
    Calls Tryd.prog 3 #[.int .u64 (a : Int), .int .u64 (b : Int)] w fun e w' => e = .returned (.bool true) ∧ Below w.heap.size w w' := by
  have c1 : ((clsN a : Int) == 0) = false := beqN_f (y := 0) na
  have c2 : ((clsN b : Int) == 0) = false := beqN_f (y := 0) nb
  have hx : minW a b = a := min_le (by omega) (any_f na nb)
  have hy : maxW a b = b := max_le hr (any_f na nb)
  have hx' : minW b a = a := min_ge hr (any_f nb na)
  have hy' : maxW b a = b := max_ge (by omega) (any_f nb na)
  have ho : ordW a b ≤ 0 := ord_le (by omega)
  clear na nb hr
  go_enter Tryd.func3, Tryd.ntmps3
  go_wp2_with (first
      | (go_at_call 5; refine (min_any _ _ (by assumption) (by assumption) _).mono ?_; rintro e w1 ⟨rfl, rfl⟩)
      | (go_at_call 6; refine (max_any _ _ (by assumption) (by assumption) _).mono ?_; rintro e w1 ⟨rfl, rfl⟩)
      | (go_at_call 7; refine (awake_true _ hT).mono ?_; rintro e w2 ⟨rfl, hb2⟩)
      | (go_at_call 9; refine (order_any _ _ (by assumption) (by assumption) _).mono ?_; rintro e w1 ⟨rfl, rfl⟩)
      | (go_at_call 8; refine (class_any _ (by assumption) _).mono ?_; rintro e w1 ⟨rfl, rfl⟩))
  go_ret
  exact ⟨rfl, hb2⟩
set_option maxHeartbeats 1000000 in
theorem numPairs_ge (a : Nat) (ha : a < 18446744073709551616) (b : Nat) (hb : b < 18446744073709551616) (na : clsN a ≠ 0) (nb : clsN b ≠ 0) (hr : rankW b < rankW a) (w : World) (hT : TabC w) :
    Calls Tryd.prog 3 #[.int .u64 (a : Int), .int .u64 (b : Int)] w fun e w' => e = .returned (.bool true) ∧ Below w.heap.size w w' := by
  have c1 : ((clsN a : Int) == 0) = false := beqN_f (y := 0) na
  have c2 : ((clsN b : Int) == 0) = false := beqN_f (y := 0) nb
  have hne : ((b : Int) == (a : Int)) = false := beqN_f (by intro h; rw [h] at hr; omega)
  have hx : minW a b = b := min_ge hr (any_f na nb)
  have hy : maxW a b = a := max_ge (by omega) (any_f na nb)
  have hx' : minW b a = b := min_le (by omega) (any_f nb na)
  have hy' : maxW b a = a := max_le hr (any_f nb na)
  have ho : ordW b a ≤ 0 := ord_le (by omega)
  clear na nb hr
  go_enter Tryd.func3, Tryd.ntmps3
  go_wp2_with (first
      | (go_at_call 5; refine (min_any _ _ (by assumption) (by assumption) _).mono ?_; rintro e w1 ⟨rfl, rfl⟩)
      | (go_at_call 6; refine (max_any _ _ (by assumption) (by assumption) _).mono ?_; rintro e w1 ⟨rfl, rfl⟩)
      | (go_at_call 7; refine (awake_true _ hT).mono ?_; rintro e w2 ⟨rfl, hb2⟩)
      | (go_at_call 9; refine (order_any _ _ (by assumption) (by assumption) _).mono ?_; rintro e w1 ⟨rfl, rfl⟩)
      | (go_at_call 8; refine (class_any _ (by assumption) _).mono ?_; rintro e w1 ⟨rfl, rfl⟩))
  go_ret
  exact ⟨rfl, hb2⟩
set_option maxHeartbeats 1000000 in
theorem numPairs_eq (a : Nat) (ha : a < 18446744073709551616) (na : clsN a ≠ 0) (w : World) (hT : TabC w) :
    Calls Tryd.prog 3 #[.int .u64 (a : Int), .int .u64 (a : Int)] w fun e w' => e = .returned (.bool true) ∧ Below w.heap.size w w' := by
  have c1 : ((clsN a : Int) == 0) = false := beqN_f (y := 0) na
  have hx : minW a a = a := min_le (by omega) (any_f na na)
  have hy : maxW a a = a := max_ge (by omega) (any_f na na)
  have ho : ordW a a ≤ 0 := ord_le (by omega)
  clear na
  go_enter Tryd.func3, Tryd.ntmps3
  go_wp2_with (first
      | (go_at_call 5; refine (min_any _ _ (by assumption) (by assumption) _).mono ?_; rintro e w1 ⟨rfl, rfl⟩)
      | (go_at_call 6; refine (max_any _ _ (by assumption) (by assumption) _).mono ?_; rintro e w1 ⟨rfl, rfl⟩)
      | (go_at_call 7; refine (awake_true _ hT).mono ?_; rintro e w2 ⟨rfl, hb2⟩)
      | (go_at_call 9; refine (order_any _ _ (by assumption) (by assumption) _).mono ?_; rintro e w1 ⟨rfl, rfl⟩)
      | (go_at_call 8; refine (class_any _ (by assumption) _).mono ?_; rintro e w1 ⟨rfl, rfl⟩))
  go_ret
  exact ⟨rfl, hb2⟩
theorem numPairs_walk (a : Nat) (ha : a < 18446744073709551616) (b : Nat) (hb : b < 18446744073709551616) (w : World) (hT : TabC w) :
    Calls Tryd.prog 3 #[.int .u64 (a : Int), .int .u64 (b : Int)] w fun e w' => e = .returned (.bool true) ∧ Below w.heap.size w w' := by
  by_cases h1 : clsN a = 0
  · exact numPairs_nan a ha b hb (.inl h1) w hT
  · by_cases h2 : clsN b = 0
    · exact numPairs_nan a ha b hb (.inr h2) w hT
    · rcases Nat.lt_trichotomy (rankW a) (rankW b) with h | h | h
      · exact numPairs_le a ha b hb h1 h2 h w hT
      · have e := rank_inj ha hb h1 h2 h
        subst e
        exact numPairs_eq a ha h1 w hT
      · exact numPairs_ge a ha b hb h1 h2 h w hT
end Go.Proofs.YtijekbmhecnajadDoor
