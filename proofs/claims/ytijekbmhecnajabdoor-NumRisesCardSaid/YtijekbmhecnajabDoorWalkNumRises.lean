import Derived.Test.YtijekbmhecnajabDoorRiseM
import Derived.Test.YtijekbmhecnajabDoorWalkJ
namespace Go.Proofs.YtijekbmhecnajabDoor
open Go.RowKit

theorem shr63 (c : Nat) (h : c < 18446744073709551616) : ((c : Int) / 9223372036854775808) = if c < 9223372036854775808 then 0 else 1 := by
  split <;> omega
theorem beqN_nan {x : Nat} : ((x : Int) == 9221120237041090561) = decide (x = 9221120237041090561) := by
  by_cases h : x = 9221120237041090561
  · subst h; rfl
  · rw [show ((x : Int) == 9221120237041090561) = false from beqN_f (y := 9221120237041090561) h]; simp [h]
theorem bneN_nan {x : Nat} : ((x : Int) != 9221120237041090561) = !decide (x = 9221120237041090561) := by
  rw [← beqN_nan]; rfl

/-- what is told of the two sums and the two products, a not behind b -/
structure Rise (a b c : Nat) : Prop where
  sums : ((Gn.addW a c : Int) != 9221120237041090561) = false ∨ (((Gn.addW a c : Int) != 9221120237041090561) = true ∧ ((Gn.addW b c : Int) != 9221120237041090561) = false) ∨ (((Gn.addW a c : Int) != 9221120237041090561) = true ∧ ((Gn.addW b c : Int) != 9221120237041090561) = true ∧ ordW (Gn.addW a c) (Gn.addW b c) ≤ 0)
  prods : (((c : Int) / 9223372036854775808) == 1) = true ∨ ((((c : Int) / 9223372036854775808) == 1) = false ∧ ((Gn.mulW a c : Int) == 9221120237041090561) = true) ∨ ((((c : Int) / 9223372036854775808) == 1) = false ∧ ((Gn.mulW a c : Int) == 9221120237041090561) = false ∧ ((Gn.mulW b c : Int) == 9221120237041090561) = true) ∨ ((((c : Int) / 9223372036854775808) == 1) = false ∧ ((Gn.mulW a c : Int) == 9221120237041090561) = false ∧ ((Gn.mulW b c : Int) == 9221120237041090561) = false ∧ ordW (Gn.mulW a c) (Gn.mulW b c) ≤ 0)
theorem ord_le_of {a b : Nat} (h : rankW a ≤ rankW b) : ordW a b ≤ 0 := by
  unfold ordW cmpW; split
  · omega
  · rw [if_neg (by omega)]; omega
theorem nan_add {a c : Nat} (hc : c < 18446744073709551616) (h : clsN c = 0) : Gn.addW a c = 9221120237041090561 := by
  have := nan_read c hc ((cls_nan c).1 h)
  rw [Gn.add_ans, Gn.sum_nan_right _ this]; rfl
theorem nan_mul {a c : Nat} (hc : c < 18446744073709551616) (h : clsN c = 0) : Gn.mulW a c = 9221120237041090561 := by
  have := nan_read c hc ((cls_nan c).1 h)
  rw [Gn.mul_ans, Gn.product_nan_right _ this]; rfl
theorem rise_of (a b c : Nat) (ha : a < 18446744073709551616) (hb : b < 18446744073709551616) (hc : c < 18446744073709551616) (na : clsN a ≠ 0) (nb : clsN b ≠ 0) (h : rankW a ≤ rankW b) : Rise a b c := by
  by_cases nc : clsN c = 0
  · refine ⟨.inl ?_, ?_⟩
    · rw [nan_add hc nc]; rfl
    · by_cases e : (((c : Int) / 9223372036854775808) == 1) = true
      · exact .inl e
      · refine .inr (.inl ⟨by simpa using e, ?_⟩); rw [nan_mul hc nc]; rfl
  · obtain ⟨s, r, hr, rfl⟩ := num_wd a ha na
    obtain ⟨t, q, hq, rfl⟩ := num_wd b hb nb
    obtain ⟨u, p, hp, rfl⟩ := num_wd c hc nc
    refine ⟨?_, ?_⟩
    · rw [bneN_nan, bneN_nan]
      by_cases e1 : Gn.addW (Gn.wd s r) (Gn.wd u p) = 9221120237041090561
      · left; simp [e1]
      · right
        by_cases e2 : Gn.addW (Gn.wd t q) (Gn.wd u p) = 9221120237041090561
        · left; simp [e1, e2]
        · right; exact ⟨by simp [e1], by simp [e2], ord_le_of (rise_add hr hq hp h e1 e2)⟩
    · rw [beqN_nan, beqN_nan]
      cases u
      · right
        have e0 : ((((Gn.wd false p : Nat) : Int) / 9223372036854775808) == 1) = false := by
          rw [beq_eq_false_iff_ne]; show ((p : Int) / 9223372036854775808) ≠ 1; omega
        by_cases e1 : Gn.mulW (Gn.wd s r) (Gn.wd false p) = 9221120237041090561
        · left; exact ⟨e0, by simp [e1]⟩
        · right
          by_cases e2 : Gn.mulW (Gn.wd t q) (Gn.wd false p) = 9221120237041090561
          · left; exact ⟨e0, by simp [e1], by simp [e2]⟩
          · right; exact ⟨e0, by simp [e1], by simp [e2], ord_le_of (rise_mul hr hq hp h e1 e2)⟩
      · left
        rw [beq_iff_eq]; show (((9223372036854775808 + p : Nat) : Int) / 9223372036854775808) = 1; omega

set_option maxHeartbeats 1000000 in
theorem numRises_nan (a : Nat) (ha : a < 18446744073709551616) (b : Nat) (hb : b < 18446744073709551616) (c : Nat) (hn : clsN a = 0 ∨ clsN b = 0) (w : World) (hT : TabC w) :
    Calls Tryd.prog 6 #[.int .u64 (a : Int), .int .u64 (b : Int), .int .u64 (c : Int)] w fun e w' => e = .returned (.bool true) ∧ Below w.heap.size w w' := by
  by_cases h1 : clsN a = 0
  · have c1 : ((clsN a : Int) == 0) = true := beqN_t (y := 0) h1
    clear h1 hn
    go_enter Tryd.func6, Tryd.ntmps6
    go_wp2_with (first
    | (go_at_call 16; refine (class_any _ (by assumption) _).mono ?_; rintro e wx ⟨rfl, rfl⟩)
    | (go_at_call 17; refine (order_any _ _ (by assumption) (by assumption) _).mono ?_; rintro e wx ⟨rfl, rfl⟩)
    | (go_at_call 12; refine (add_any _ _ _).mono ?_; rintro e wx ⟨rfl, nx, rfl⟩)
    | (go_at_call 13; refine (mul_any _ _ _).mono ?_; rintro e wx ⟨rfl, nx, rfl⟩)
    | (go_at_call 9; refine (awake_true _ (hT)).mono ?_; rintro e w2 ⟨rfl, hb2⟩))
    go_ret
    exact ⟨rfl, hb2⟩
  · have h2 : clsN b = 0 := by rcases hn with h | h; exact absurd h h1; exact h
    have c1 : ((clsN a : Int) == 0) = false := beqN_f (y := 0) h1
    have c2 : ((clsN b : Int) == 0) = true := beqN_t (y := 0) h2
    clear h1 hn h2
    go_enter Tryd.func6, Tryd.ntmps6
    go_wp2_with (first
    | (go_at_call 16; refine (class_any _ (by assumption) _).mono ?_; rintro e wx ⟨rfl, rfl⟩)
    | (go_at_call 17; refine (order_any _ _ (by assumption) (by assumption) _).mono ?_; rintro e wx ⟨rfl, rfl⟩)
    | (go_at_call 12; refine (add_any _ _ _).mono ?_; rintro e wx ⟨rfl, nx, rfl⟩)
    | (go_at_call 13; refine (mul_any _ _ _).mono ?_; rintro e wx ⟨rfl, nx, rfl⟩)
    | (go_at_call 9; refine (awake_true _ (hT)).mono ?_; rintro e w2 ⟨rfl, hb2⟩))
    go_ret
    exact ⟨rfl, hb2⟩
set_option maxHeartbeats 2000000 in
theorem numRises_up (a : Nat) (ha : a < 18446744073709551616) (b : Nat) (hb : b < 18446744073709551616) (c : Nat) (na : clsN a ≠ 0) (nb : clsN b ≠ 0) (ho : ¬ 0 < ordW a b) (hR : Rise a b c) (w : World) (hT : TabC w) :
    Calls Tryd.prog 6 #[.int .u64 (a : Int), .int .u64 (b : Int), .int .u64 (c : Int)] w fun e w' => e = .returned (.bool true) ∧ Below w.heap.size w w' := by
  have c1 : ((clsN a : Int) == 0) = false := beqN_f (y := 0) na
  have c2 : ((clsN b : Int) == 0) = false := beqN_f (y := 0) nb
  have l1 := Gn.add_lt a c
  have l2 := Gn.add_lt b c
  have l3 := Gn.mul_lt a c
  have l4 := Gn.mul_lt b c
  obtain ⟨hs, hp⟩ := hR
  have z1 : ((clsN (Gn.mulW a c) : Int) == 2) = true ∨ ((clsN (Gn.mulW a c) : Int) == 2) = false := by cases ((clsN (Gn.mulW a c) : Int) == 2) <;> simp
  have z2 : ((clsN (Gn.mulW b c) : Int) == 2) = true ∨ ((clsN (Gn.mulW b c) : Int) == 2) = false := by cases ((clsN (Gn.mulW b c) : Int) == 2) <;> simp
  clear na nb
  rcases hs with hs | ⟨hs, hs2⟩ | ⟨hs, hs2, hs3⟩
  all_goals rcases hp with hp | ⟨hp, hp2⟩ | ⟨hp, hp2, hp3⟩ | ⟨hp, hp2, hp3, hp4⟩
  all_goals rcases z1 with z1 | z1
  all_goals rcases z2 with z2 | z2
  all_goals
    go_enter Tryd.func6, Tryd.ntmps6
    go_wp2_with (first
      | (go_at_call 16; refine (class_any _ (by assumption) _).mono ?_; rintro e wx ⟨rfl, rfl⟩)
      | (go_at_call 17; refine (order_any _ _ (by assumption) (by assumption) _).mono ?_; rintro e wx ⟨rfl, rfl⟩)
      | (go_at_call 12; refine (add_any _ _ _).mono ?_; rintro e wx ⟨rfl, nx, rfl⟩)
      | (go_at_call 13; refine (mul_any _ _ _).mono ?_; rintro e wx ⟨rfl, nx, rfl⟩)
      | (go_at_call 9; refine (awake_true _ (hT)).mono ?_; rintro e w2 ⟨rfl, hb2⟩))
    go_ret
    exact ⟨rfl, bt hb2 (bd _ _)⟩
set_option maxHeartbeats 2000000 in
theorem numRises_down (a : Nat) (ha : a < 18446744073709551616) (b : Nat) (hb : b < 18446744073709551616) (c : Nat) (na : clsN a ≠ 0) (nb : clsN b ≠ 0) (ho : 0 < ordW a b) (hR : Rise b a c) (w : World) (hT : TabC w) :
    Calls Tryd.prog 6 #[.int .u64 (a : Int), .int .u64 (b : Int), .int .u64 (c : Int)] w fun e w' => e = .returned (.bool true) ∧ Below w.heap.size w w' := by
  have c1 : ((clsN a : Int) == 0) = false := beqN_f (y := 0) na
  have c2 : ((clsN b : Int) == 0) = false := beqN_f (y := 0) nb
  have l1 := Gn.add_lt a c
  have l2 := Gn.add_lt b c
  have l3 := Gn.mul_lt a c
  have l4 := Gn.mul_lt b c
  obtain ⟨hs, hp⟩ := hR
  have z1 : ((clsN (Gn.mulW b c) : Int) == 2) = true ∨ ((clsN (Gn.mulW b c) : Int) == 2) = false := by cases ((clsN (Gn.mulW b c) : Int) == 2) <;> simp
  have z2 : ((clsN (Gn.mulW a c) : Int) == 2) = true ∨ ((clsN (Gn.mulW a c) : Int) == 2) = false := by cases ((clsN (Gn.mulW a c) : Int) == 2) <;> simp
  clear na nb
  rcases hs with hs | ⟨hs, hs2⟩ | ⟨hs, hs2, hs3⟩
  all_goals rcases hp with hp | ⟨hp, hp2⟩ | ⟨hp, hp2, hp3⟩ | ⟨hp, hp2, hp3, hp4⟩
  all_goals rcases z1 with z1 | z1
  all_goals rcases z2 with z2 | z2
  all_goals
    go_enter Tryd.func6, Tryd.ntmps6
    go_wp2_with (first
      | (go_at_call 16; refine (class_any _ (by assumption) _).mono ?_; rintro e wx ⟨rfl, rfl⟩)
      | (go_at_call 17; refine (order_any _ _ (by assumption) (by assumption) _).mono ?_; rintro e wx ⟨rfl, rfl⟩)
      | (go_at_call 12; refine (add_any _ _ _).mono ?_; rintro e wx ⟨rfl, nx, rfl⟩)
      | (go_at_call 13; refine (mul_any _ _ _).mono ?_; rintro e wx ⟨rfl, nx, rfl⟩)
      | (go_at_call 9; refine (awake_true _ (hT)).mono ?_; rintro e w2 ⟨rfl, hb2⟩))
    go_ret
    exact ⟨rfl, bt hb2 (bd _ _)⟩

theorem numRises_walk (a : Nat) (ha : a < 18446744073709551616) (b : Nat) (hb : b < 18446744073709551616) (c : Nat) (hc : c < 18446744073709551616) (w : World) (hT : TabC w) :
    Calls Tryd.prog 6 #[.int .u64 (a : Int), .int .u64 (b : Int), .int .u64 (c : Int)] w fun e w' => e = .returned (.bool true) ∧ Below w.heap.size w w' := by
  by_cases h1 : clsN a = 0
  · exact numRises_nan a ha b hb c (.inl h1) w hT
  · by_cases h2 : clsN b = 0
    · exact numRises_nan a ha b hb c (.inr h2) w hT
    · by_cases h : rankW a ≤ rankW b
      · exact numRises_up a ha b hb c h1 h2 (by have := ord_le_of h; omega) (rise_of a b c ha hb hc h1 h2 h) w hT
      · exact numRises_down a ha b hb c h1 h2 (ord_pos (by omega)) (rise_of b a c hb ha hc h2 h1 (by omega)) w hT
end Go.Proofs.YtijekbmhecnajabDoor
