import Derived.Test.YtijekbmhecnajacDoorOrdF
import Derived.Test.YtijekbmhecnajacDoorWalkJ
namespace Go.Proofs.YtijekbmhecnajacDoor
open Go.RowKit

theorem rank_num' {a : Nat} (h : clsN a ≠ 0) : rankW a = if a < 9223372036854775808 then a + 9223372036854775808 else 18446744073709551615 - a := by
  unfold rankW
  have : Gn.canonW a = a := by unfold Gn.canonW; rw [if_neg (fun k => h ((cls_nan a).2 k))]
  rw [this]
theorem rank_canon {a b : Nat} (ha : a < 18446744073709551616) (hb : b < 18446744073709551616) : rankW a = rankW b ↔ Gn.canonW a = Gn.canonW b := by
  unfold rankW
  have h1 := Gn.canon_lt a ha
  have h2 := Gn.canon_lt b hb
  generalize Gn.canonW a = x at *
  generalize Gn.canonW b = y at *
  constructor
  · intro h
    by_cases p : x < 9223372036854775808
    · by_cases q : y < 9223372036854775808
      · rw [if_pos p, if_pos q] at h; omega
      · rw [if_pos p, if_neg q] at h; omega
    · by_cases q : y < 9223372036854775808
      · rw [if_neg p, if_pos q] at h; omega
      · rw [if_neg p, if_neg q] at h; omega
  · intro h; rw [h]
theorem ord_m {a b : Nat} (h : rankW a < rankW b) : ordW a b = -1 ∧ ordW b a = 1 := by
  unfold ordW cmpW; rw [if_pos h, if_neg (by omega), if_pos h]; exact ⟨rfl, rfl⟩
theorem ord_z {a b : Nat} (h : rankW a = rankW b) : ordW a b = 0 ∧ ordW b a = 0 := by
  unfold ordW cmpW; rw [if_neg (by omega), if_neg (by omega), if_neg (by omega), if_neg (by omega)]; exact ⟨rfl, rfl⟩
theorem ord_le3 {a b : Nat} : ordW a b ≤ 0 ↔ rankW a ≤ rankW b := by
  unfold ordW cmpW
  by_cases h : rankW a < rankW b
  · rw [if_pos h]; omega
  · rw [if_neg h]
    by_cases k : rankW b < rankW a
    · rw [if_pos k]; omega
    · rw [if_neg k]; omega
/-- what stands of two numbers' classes, and Less and Equal -/
structure Sit (a b : Nat) (x : Int) : Prop where
  kind : (((clsN a : Int) == 0) = true ∧ ltW a b = false ∧ eqW a b = false) ∨
    (((clsN a : Int) == 0) = false ∧ ((clsN b : Int) == 0) = true ∧ ltW a b = false ∧ eqW a b = false) ∨
    (((clsN a : Int) == 0) = false ∧ ((clsN b : Int) == 0) = false ∧ ((clsN a : Int) == 2) = false ∧ ltW a b = decide (x < 0) ∧ eqW a b = decide (x = 0)) ∨
    (((clsN a : Int) == 0) = false ∧ ((clsN b : Int) == 0) = false ∧ ((clsN a : Int) == 2) = true ∧ ((clsN b : Int) == 2) = false ∧ ltW a b = decide (x < 0) ∧ eqW a b = decide (x = 0)) ∨
    (((clsN a : Int) == 0) = false ∧ ((clsN b : Int) == 0) = false ∧ ((clsN a : Int) == 2) = true ∧ ((clsN b : Int) == 2) = true ∧ ltW a b = false ∧ eqW a b = true)
theorem sit (a b : Nat) (ha : a < 18446744073709551616) (hb : b < 18446744073709551616) : Sit a b (ordW a b) := by
  have key : decide (ordW a b < 0) = decide (rankW a < rankW b) ∧ decide (ordW a b = 0) = decide (rankW a = rankW b) := by
    rcases Nat.lt_trichotomy (rankW a) (rankW b) with h | h | h
    · rw [(ord_m h).1]; constructor <;> (rw [Bool.eq_iff_iff]; simp; omega)
    · rw [(ord_z h).1]; constructor <;> (rw [Bool.eq_iff_iff]; simp; omega)
    · rw [(ord_m h).2]; constructor <;> (rw [Bool.eq_iff_iff]; simp; omega)
  refine ⟨?_⟩
  rw [key.1, key.2]
  by_cases na : clsN a = 0
  · obtain ⟨h1, h2⟩ := lt_nan a b ha hb (.inl na)
    exact .inl ⟨beqN_t (y := 0) na, h1, h2⟩
  · by_cases nb : clsN b = 0
    · obtain ⟨h1, h2⟩ := lt_nan a b ha hb (.inr nb)
      exact .inr (.inl ⟨beqN_f (y := 0) na, beqN_t (y := 0) nb, h1, h2⟩)
    · obtain ⟨h1, h2⟩ := lt_rank a b ha hb na nb
      by_cases za : clsN a = 2
      · by_cases zb : clsN b = 2
        · refine .inr (.inr (.inr (.inr ⟨beqN_f (y := 0) na, beqN_f (y := 0) nb, beqN_t (y := 2) za, beqN_t (y := 2) zb, ?_, ?_⟩)))
          · rw [h1]; simp [bothZ, za, zb]
          · rw [h2]; simp [bothZ, za, zb]
        · refine .inr (.inr (.inr (.inl ⟨beqN_f (y := 0) na, beqN_f (y := 0) nb, beqN_t (y := 2) za, beqN_f (y := 2) zb, ?_, ?_⟩)))
          · rw [h1]; simp [bothZ, zb]
          · rw [h2]; simp [bothZ, zb]
      · refine .inr (.inr (.inl ⟨beqN_f (y := 0) na, beqN_f (y := 0) nb, beqN_f (y := 2) za, ?_, ?_⟩))
        · rw [h1]; simp [bothZ, za]
        · rw [h2]; simp [bothZ, za]

set_option maxHeartbeats 1000000 in
theorem numLines_m1 (a : Nat) (ha : a < 18446744073709551616) (b : Nat) (hb : b < 18446744073709551616) (c : Nat) (hc : c < 18446744073709551616) (hx : ordW a b = -1) (hy : ordW b a = 1) (hcan : ((Gn.canonW a : Int) == (Gn.canonW b : Int)) = false) (h1 : ordW b c ≤ 0) (h2 : ordW a c ≤ 0) (hs : Sit a b (-1)) (w : World) (hT : TabC w) :
    Calls Tryd.prog 3 #[.int .u64 (a : Int), .int .u64 (b : Int), .int .u64 (c : Int)] w fun e w' => e = .returned (.bool true) ∧ Below w.heap.size w w' := by
  obtain ⟨hk⟩ := hs
  rcases hk with ⟨k1, k2, k3⟩ | ⟨k1, k2, k3, k4⟩ | ⟨k1, k2, k3, k4, k5⟩ | ⟨k1, k2, k3, k4, k5, k6⟩ | ⟨k1, k2, k3, k4, k5, k6⟩
  all_goals
    go_enter Tryd.func3, Tryd.ntmps3
    go_wp2_with (first
      | (go_at_call 9; refine (order_any _ _ (by assumption) (by assumption) _).mono ?_; rintro e wx ⟨rfl, rfl⟩)
      | (go_at_call 11; refine (canon_any _ (by assumption) _).mono ?_; rintro e wx ⟨rfl, rfl⟩)
      | (go_at_call 12; refine (class_any _ (by assumption) _).mono ?_; rintro e wx ⟨rfl, rfl⟩)
      | (go_at_call 13; refine (less_any _ _ _).mono ?_; rintro e wx ⟨rfl, rfl⟩)
      | (go_at_call 14; refine (equal_any _ _ _).mono ?_; rintro e wx ⟨rfl, rfl⟩)
      | (go_at_call 10; refine (awake_true _ (hT)).mono ?_; rintro e w2 ⟨rfl, hb2⟩))
    go_ret
    exact ⟨rfl, hb2⟩
set_option maxHeartbeats 1000000 in
theorem numLines_m2 (a : Nat) (ha : a < 18446744073709551616) (b : Nat) (hb : b < 18446744073709551616) (c : Nat) (hc : c < 18446744073709551616) (hx : ordW a b = -1) (hy : ordW b a = 1) (hcan : ((Gn.canonW a : Int) == (Gn.canonW b : Int)) = false) (h1 : 0 < ordW b c) (hs : Sit a b (-1)) (w : World) (hT : TabC w) :
    Calls Tryd.prog 3 #[.int .u64 (a : Int), .int .u64 (b : Int), .int .u64 (c : Int)] w fun e w' => e = .returned (.bool true) ∧ Below w.heap.size w w' := by
  obtain ⟨hk⟩ := hs
  rcases hk with ⟨k1, k2, k3⟩ | ⟨k1, k2, k3, k4⟩ | ⟨k1, k2, k3, k4, k5⟩ | ⟨k1, k2, k3, k4, k5, k6⟩ | ⟨k1, k2, k3, k4, k5, k6⟩
  all_goals
    go_enter Tryd.func3, Tryd.ntmps3
    go_wp2_with (first
      | (go_at_call 9; refine (order_any _ _ (by assumption) (by assumption) _).mono ?_; rintro e wx ⟨rfl, rfl⟩)
      | (go_at_call 11; refine (canon_any _ (by assumption) _).mono ?_; rintro e wx ⟨rfl, rfl⟩)
      | (go_at_call 12; refine (class_any _ (by assumption) _).mono ?_; rintro e wx ⟨rfl, rfl⟩)
      | (go_at_call 13; refine (less_any _ _ _).mono ?_; rintro e wx ⟨rfl, rfl⟩)
      | (go_at_call 14; refine (equal_any _ _ _).mono ?_; rintro e wx ⟨rfl, rfl⟩)
      | (go_at_call 10; refine (awake_true _ (hT)).mono ?_; rintro e w2 ⟨rfl, hb2⟩))
    go_ret
    exact ⟨rfl, hb2⟩
set_option maxHeartbeats 1000000 in
theorem numLines_z1 (a : Nat) (ha : a < 18446744073709551616) (b : Nat) (hb : b < 18446744073709551616) (c : Nat) (hc : c < 18446744073709551616) (hx : ordW a b = 0) (hy : ordW b a = 0) (hcan : ((Gn.canonW a : Int) == (Gn.canonW b : Int)) = true) (h1 : ordW b c ≤ 0) (h2 : ordW a c ≤ 0) (hs : Sit a b (0)) (w : World) (hT : TabC w) :
    Calls Tryd.prog 3 #[.int .u64 (a : Int), .int .u64 (b : Int), .int .u64 (c : Int)] w fun e w' => e = .returned (.bool true) ∧ Below w.heap.size w w' := by
  obtain ⟨hk⟩ := hs
  rcases hk with ⟨k1, k2, k3⟩ | ⟨k1, k2, k3, k4⟩ | ⟨k1, k2, k3, k4, k5⟩ | ⟨k1, k2, k3, k4, k5, k6⟩ | ⟨k1, k2, k3, k4, k5, k6⟩
  all_goals
    go_enter Tryd.func3, Tryd.ntmps3
    go_wp2_with (first
      | (go_at_call 9; refine (order_any _ _ (by assumption) (by assumption) _).mono ?_; rintro e wx ⟨rfl, rfl⟩)
      | (go_at_call 11; refine (canon_any _ (by assumption) _).mono ?_; rintro e wx ⟨rfl, rfl⟩)
      | (go_at_call 12; refine (class_any _ (by assumption) _).mono ?_; rintro e wx ⟨rfl, rfl⟩)
      | (go_at_call 13; refine (less_any _ _ _).mono ?_; rintro e wx ⟨rfl, rfl⟩)
      | (go_at_call 14; refine (equal_any _ _ _).mono ?_; rintro e wx ⟨rfl, rfl⟩)
      | (go_at_call 10; refine (awake_true _ (hT)).mono ?_; rintro e w2 ⟨rfl, hb2⟩))
    go_ret
    exact ⟨rfl, hb2⟩
set_option maxHeartbeats 1000000 in
theorem numLines_z2 (a : Nat) (ha : a < 18446744073709551616) (b : Nat) (hb : b < 18446744073709551616) (c : Nat) (hc : c < 18446744073709551616) (hx : ordW a b = 0) (hy : ordW b a = 0) (hcan : ((Gn.canonW a : Int) == (Gn.canonW b : Int)) = true) (h1 : 0 < ordW b c) (hs : Sit a b (0)) (w : World) (hT : TabC w) :
    Calls Tryd.prog 3 #[.int .u64 (a : Int), .int .u64 (b : Int), .int .u64 (c : Int)] w fun e w' => e = .returned (.bool true) ∧ Below w.heap.size w w' := by
  obtain ⟨hk⟩ := hs
  rcases hk with ⟨k1, k2, k3⟩ | ⟨k1, k2, k3, k4⟩ | ⟨k1, k2, k3, k4, k5⟩ | ⟨k1, k2, k3, k4, k5, k6⟩ | ⟨k1, k2, k3, k4, k5, k6⟩
  all_goals
    go_enter Tryd.func3, Tryd.ntmps3
    go_wp2_with (first
      | (go_at_call 9; refine (order_any _ _ (by assumption) (by assumption) _).mono ?_; rintro e wx ⟨rfl, rfl⟩)
      | (go_at_call 11; refine (canon_any _ (by assumption) _).mono ?_; rintro e wx ⟨rfl, rfl⟩)
      | (go_at_call 12; refine (class_any _ (by assumption) _).mono ?_; rintro e wx ⟨rfl, rfl⟩)
      | (go_at_call 13; refine (less_any _ _ _).mono ?_; rintro e wx ⟨rfl, rfl⟩)
      | (go_at_call 14; refine (equal_any _ _ _).mono ?_; rintro e wx ⟨rfl, rfl⟩)
      | (go_at_call 10; refine (awake_true _ (hT)).mono ?_; rintro e w2 ⟨rfl, hb2⟩))
    go_ret
    exact ⟨rfl, hb2⟩
set_option maxHeartbeats 1000000 in
theorem numLines_p (a : Nat) (ha : a < 18446744073709551616) (b : Nat) (hb : b < 18446744073709551616) (c : Nat) (_hc : c < 18446744073709551616) (hx : ordW a b = 1) (hy : ordW b a = -1) (hcan : ((Gn.canonW a : Int) == (Gn.canonW b : Int)) = false) (hs : Sit a b (1)) (w : World) (hT : TabC w) :
    Calls Tryd.prog 3 #[.int .u64 (a : Int), .int .u64 (b : Int), .int .u64 (c : Int)] w fun e w' => e = .returned (.bool true) ∧ Below w.heap.size w w' := by
  obtain ⟨hk⟩ := hs
  rcases hk with ⟨k1, k2, k3⟩ | ⟨k1, k2, k3, k4⟩ | ⟨k1, k2, k3, k4, k5⟩ | ⟨k1, k2, k3, k4, k5, k6⟩ | ⟨k1, k2, k3, k4, k5, k6⟩
  all_goals
    go_enter Tryd.func3, Tryd.ntmps3
    go_wp2_with (first
      | (go_at_call 9; refine (order_any _ _ (by assumption) (by assumption) _).mono ?_; rintro e wx ⟨rfl, rfl⟩)
      | (go_at_call 11; refine (canon_any _ (by assumption) _).mono ?_; rintro e wx ⟨rfl, rfl⟩)
      | (go_at_call 12; refine (class_any _ (by assumption) _).mono ?_; rintro e wx ⟨rfl, rfl⟩)
      | (go_at_call 13; refine (less_any _ _ _).mono ?_; rintro e wx ⟨rfl, rfl⟩)
      | (go_at_call 14; refine (equal_any _ _ _).mono ?_; rintro e wx ⟨rfl, rfl⟩)
      | (go_at_call 10; refine (awake_true _ (hT)).mono ?_; rintro e w2 ⟨rfl, hb2⟩))
    go_ret
    exact ⟨rfl, hb2⟩

theorem numLines_walk (a : Nat) (ha : a < 18446744073709551616) (b : Nat) (hb : b < 18446744073709551616) (c : Nat) (hc : c < 18446744073709551616) (w : World) (hT : TabC w) :
    Calls Tryd.prog 3 #[.int .u64 (a : Int), .int .u64 (b : Int), .int .u64 (c : Int)] w fun e w' => e = .returned (.bool true) ∧ Below w.heap.size w w' := by
  have hs := sit a b ha hb
  have hcan := @rank_canon a b ha hb
  rcases Nat.lt_trichotomy (rankW a) (rankW b) with h | h | h
  · obtain ⟨hx, hy⟩ := ord_m h
    rw [hx] at hs
    have hn : ((Gn.canonW a : Int) == (Gn.canonW b : Int)) = false := beqN_f (fun k => by have := hcan.2 k; omega)
    by_cases h1 : ordW b c ≤ 0
    · exact numLines_m1 a ha b hb c hc hx hy hn h1 (ord_le3.2 (by have := ord_le3.1 h1; omega)) hs w hT
    · exact numLines_m2 a ha b hb c hc hx hy hn (by omega) hs w hT
  · obtain ⟨hx, hy⟩ := ord_z h
    rw [hx] at hs
    have hn : ((Gn.canonW a : Int) == (Gn.canonW b : Int)) = true := beqN_t (hcan.1 h)
    by_cases h1 : ordW b c ≤ 0
    · exact numLines_z1 a ha b hb c hc hx hy hn h1 (ord_le3.2 (by have := ord_le3.1 h1; omega)) hs w hT
    · exact numLines_z2 a ha b hb c hc hx hy hn (by omega) hs w hT
  · obtain ⟨hy, hx⟩ := ord_m h
    rw [hx] at hs
    have hn : ((Gn.canonW a : Int) == (Gn.canonW b : Int)) = false := beqN_f (fun k => by have := hcan.2 k; omega)
    exact numLines_p a ha b hb c hc hx hy hn hs w hT
end Go.Proofs.YtijekbmhecnajacDoor
