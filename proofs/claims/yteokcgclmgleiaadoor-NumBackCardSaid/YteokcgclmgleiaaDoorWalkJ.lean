import Derived.Test.YteokcgclmgleiaaDoorWalkI
namespace Go.Proofs.YteokcgclmgleiaaDoor
open Go.RowKit

theorem add_11 (w : World) : Calls Tryd.prog 9 #[.int .u64 4607182418800017408, .int .u64 4607182418800017408] w fun e w' => e = .returned (.int .u64 4611686018427387904) ∧ ∃ n, w' = w.drewN n := by
  have e : Gn.addW 4607182418800017408 4607182418800017408 = 4611686018427387904 := by decide
  have := add_any 4607182418800017408 4607182418800017408 w
  rw [e] at this; exact this
theorem int_10 (w : World) : Calls Tryd.prog 43 #[.int .u64 4621819117588971520] w fun e w' => e = .returned (.tuple #[.int .i64 10, .int .i64 0]) ∧ w' = w := by
  have e : intR 4621819117588971520 = .tuple #[.int .i64 10, .int .i64 0] := by
    unfold intR
    rw [show Gn.intOk 4621819117588971520 = true from by decide, show Gn.intV 4621819117588971520 = 10 from by decide]; rfl
  have := int_any 4621819117588971520 (by decide) w
  rw [e] at this; exact this
theorem int_inf (w : World) : Calls Tryd.prog 43 #[.int .u64 9218868437227405312] w fun e w' => e = .returned (.tuple #[.int .i64 0, .int .i64 11]) ∧ w' = w := by
  have e : intR 9218868437227405312 = .tuple #[.int .i64 0, .int .i64 11] := int_no (by decide)
  have := int_any 9218868437227405312 (by decide) w
  rw [e] at this; exact this
theorem canon_x (w : World) : Calls Tryd.prog 8 #[.int .u64 9221120237041090566] w fun e w' => e = .returned (.int .u64 9221120237041090561) ∧ w' = w := by
  have e : Gn.canonW 9221120237041090566 = 9221120237041090561 := by decide
  have := canon_any 9221120237041090566 (by decide) w
  rw [e] at this; exact this

theorem tab_below {a b : World} (h : TabC a) (hg : 1 < a.heap.size) (k : Below a.heap.size a b) : TabC b := by
  unfold TabC at *
  rw [k.cell (p := ⟨1, tabPlace, none⟩) hg]; exact h
theorem tab_size {a : World} (h : TabC a) : 1 < a.heap.size := by
  unfold TabC World.cell? at h
  rcases Nat.lt_or_ge 1 a.heap.size with h1 | h1
  · exact h1
  · have e : a.heap[1]? = none := Array.getElem?_eq_none h1
    simp only [e] at h
    cases h
theorem tab_drew {a : World} (h : TabC a) (n : Nat) : TabC (a.drewN n) := h

set_option maxHeartbeats 1000000 in
theorem known_true (w : World) (h : TabC w) : Calls Tryd.prog 23 #[] w fun e w' => e = .returned (.bool true) ∧ Below w.heap.size w w' := by
  go_enter Tryd.func23, Tryd.ntmps23
  go_wp2_with (first
    | (go_at_call 5; refine (parse_5p1 _).mono ?_; rintro e w1 ⟨rfl, hb1⟩)
    | (go_at_call 43; refine (int_10 _).mono ?_; rintro e w2 ⟨rfl, rfl⟩)
    | (go_at_call 9; refine (add_11 _).mono ?_; rintro e w2 ⟨rfl, n, rfl⟩)
    | (go_at_call 6; refine (text_5 _ (tab_drew (tab_below h (tab_size h) hb1) _)).mono ?_; rintro e w3 ⟨rfl, rfl⟩)
    | (go_at_call 8; refine (canon_x _).mono ?_; rintro e w2 ⟨rfl, rfl⟩))
  go_ret
  exact ⟨rfl, bt hb1 (bd _ _)⟩
theorem class_one (w : World) : Calls Tryd.prog 18 #[.int .u64 4607182418800017408] w fun e w' => e = .returned (.int .i64 4) ∧ w' = w := by
  have e : clsN 4607182418800017408 = 4 := by decide
  have := class_any 4607182418800017408 (by decide) w
  rw [e] at this; exact this
theorem sub_11 (w : World) : Calls Tryd.prog 10 #[.int .u64 4607182418800017408, .int .u64 4607182418800017408] w fun e w' => e = .returned (.int .u64 0) ∧ ∃ n, w' = w.drewN n := by
  have e : Gn.subW 4607182418800017408 4607182418800017408 = 0 := by decide
  have := sub_any 4607182418800017408 4607182418800017408 (by decide) w
  rw [e] at this; exact this
theorem mul_1i (w : World) : Calls Tryd.prog 11 #[.int .u64 4607182418800017408, .int .u64 9218868437227405312] w fun e w' => e = .returned (.int .u64 9218868437227405312) ∧ ∃ n, w' = w.drewN n := by
  have e : Gn.mulW 4607182418800017408 9218868437227405312 = 9218868437227405312 := by decide
  have := mul_any 4607182418800017408 9218868437227405312 w
  rw [e] at this; exact this
theorem div_10 (w : World) : Calls Tryd.prog 12 #[.int .u64 4607182418800017408, .int .u64 0] w fun e w' => e = .returned (.int .u64 9218868437227405312) ∧ ∃ n, w' = w.drewN n := by
  have e : Gn.divW 4607182418800017408 0 = 9218868437227405312 := by decide
  have := div_any 4607182418800017408 0 w
  rw [e] at this; exact this
theorem min_1i (w : World) : Calls Tryd.prog 13 #[.int .u64 4607182418800017408, .int .u64 9218868437227405312] w fun e w' => e = .returned (.int .u64 4607182418800017408) ∧ w' = w := by
  have e : minW 4607182418800017408 9218868437227405312 = 4607182418800017408 := by decide
  have := min_any 4607182418800017408 9218868437227405312 (by decide) (by decide) w
  rw [e] at this; exact this
theorem max_1i (w : World) : Calls Tryd.prog 14 #[.int .u64 4607182418800017408, .int .u64 9218868437227405312] w fun e w' => e = .returned (.int .u64 9218868437227405312) ∧ w' = w := by
  have e : maxW 4607182418800017408 9218868437227405312 = 9218868437227405312 := by decide
  have := max_any 4607182418800017408 9218868437227405312 (by decide) (by decide) w
  rw [e] at this; exact this
theorem neg_0 (w : World) : Calls Tryd.prog 15 #[.int .u64 0] w fun e w' => e = .returned (.int .u64 9223372036854775808) ∧ w' = w := by
  have e : Gn.negW 0 = 9223372036854775808 := by decide
  have := neg_any 0 (by decide) w
  rw [e] at this; exact this
theorem abs_s (w : World) : Calls Tryd.prog 16 #[.int .u64 9223372036854775808] w fun e w' => e = .returned (.int .u64 0) ∧ w' = w := by
  have e : Gn.absW 9223372036854775808 = 0 := by decide
  have := abs_any 9223372036854775808 (by decide) w
  rw [e] at this; exact this
theorem floor_1 (w : World) : Calls Tryd.prog 17 #[.int .u64 4607182418800017408] w fun e w' => e = .returned (.int .u64 4607182418800017408) ∧ ∃ n, w' = w.drewN n := by
  have e : floorW 4607182418800017408 = 4607182418800017408 := by decide
  have := floor_any 4607182418800017408 (by decide) w
  rw [e] at this; exact this
theorem less_01 (w : World) : Calls Tryd.prog 44 #[.int .u64 0, .int .u64 4607182418800017408] w fun e w' => e = .returned (.bool true) ∧ w' = w := by
  have e : ltW 0 4607182418800017408 = true := by decide
  have := less_any 0 4607182418800017408 w
  rw [e] at this; exact this
theorem equal_00 (w : World) : Calls Tryd.prog 45 #[.int .u64 0, .int .u64 9223372036854775808] w fun e w' => e = .returned (.bool true) ∧ w' = w := by
  have e : eqW 0 9223372036854775808 = true := by decide
  have := equal_any 0 9223372036854775808 w
  rw [e] at this; exact this
theorem order_01 (w : World) : Calls Tryd.prog 19 #[.int .u64 0, .int .u64 4607182418800017408] w fun e w' => e = .returned (.int .i64 (-1)) ∧ w' = w := by
  have e : ordW 0 4607182418800017408 = (-1) := by decide
  have := order_any 0 4607182418800017408 (by decide) (by decide) w
  rw [e] at this; exact this
theorem of_1 (w : World) : Calls Tryd.prog 46 #[.int .i64 1] w fun e w' => e = .returned (.int .u64 4607182418800017408) ∧ w' = w := by
  have e : ofW 1 = 4607182418800017408 := by decide
  have := of_any 1 w
  rw [e] at this; exact this

set_option maxHeartbeats 1000000 in
theorem names_true (w : World) (h : TabC w) : Calls Tryd.prog 24 #[] w fun e w' => e = .returned (.bool true) ∧ Below w.heap.size w w' := by
  have hg := tab_size h
  go_enter Tryd.func24, Tryd.ntmps24
  go_wp2_with fail
  refine (parse_2p0 _).mono ?_
  rintro e w1 ⟨rfl, hb1⟩
  go_wp2_with fail
  refine (parse_1p1024 _).mono ?_
  rintro e w2 ⟨rfl, hb2⟩
  have hb := bt hb1 hb2
  have ht := tab_below h hg hb
  clear hb1 hb2
  go_wp2_with (first
    | (go_at_call 43; refine (int_inf _).mono ?_; rintro e w3 ⟨rfl, rfl⟩)
    | (go_at_call 23; refine (known_true _ (by assumption)).mono ?_; rintro e w3 ⟨rfl, hb3⟩)
    | (go_at_call 18; refine (class_one _).mono ?_; rintro e w4 ⟨rfl, rfl⟩)
    | (go_at_call 10; refine (sub_11 _).mono ?_; rintro e w4 ⟨rfl, n1, rfl⟩)
    | (go_at_call 11; refine (mul_1i _).mono ?_; rintro e w4 ⟨rfl, n2, rfl⟩)
    | (go_at_call 12; refine (div_10 _).mono ?_; rintro e w4 ⟨rfl, n3, rfl⟩)
    | (go_at_call 13; refine (min_1i _).mono ?_; rintro e w4 ⟨rfl, rfl⟩)
    | (go_at_call 14; refine (max_1i _).mono ?_; rintro e w4 ⟨rfl, rfl⟩)
    | (go_at_call 15; refine (neg_0 _).mono ?_; rintro e w4 ⟨rfl, rfl⟩)
    | (go_at_call 16; refine (abs_s _).mono ?_; rintro e w4 ⟨rfl, rfl⟩)
    | (go_at_call 17; refine (floor_1 _).mono ?_; rintro e w4 ⟨rfl, n4, rfl⟩)
    | (go_at_call 44; refine (less_01 _).mono ?_; rintro e w4 ⟨rfl, rfl⟩)
    | (go_at_call 45; refine (equal_00 _).mono ?_; rintro e w4 ⟨rfl, rfl⟩)
    | (go_at_call 19; refine (order_01 _).mono ?_; rintro e w4 ⟨rfl, rfl⟩)
    | (go_at_call 46; refine (of_1 _).mono ?_; rintro e w4 ⟨rfl, rfl⟩))

  go_ret
  exact ⟨rfl, bt (bt hb hb3) (bd _ _)⟩

set_option maxHeartbeats 1000000 in
theorem awake_true (w : World) (h : TabC w) : Calls Tryd.prog 7 #[] w fun e w' => e = .returned (.bool true) ∧ Below w.heap.size w w' := by
  have hg := tab_size h
  go_enter Tryd.func7, Tryd.ntmps7
  go_wp2_with fail
  refine (known_true _ h).mono ?_
  rintro e w1 ⟨rfl, hb1⟩
  have ht := tab_below h hg hb1
  go_wp2_with fail
  refine (names_true _ ht).mono ?_
  rintro e w2 ⟨rfl, hb2⟩
  go_wp2_with fail
  go_ret
  exact ⟨rfl, bt hb1 hb2⟩
end Go.Proofs.YteokcgclmgleiaaDoor
