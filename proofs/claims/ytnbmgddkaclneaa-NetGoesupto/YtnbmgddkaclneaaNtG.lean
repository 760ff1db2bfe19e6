import Derived.Test.YtnbmgddkaclneaaNtF
namespace Go.Proofs.Ytnbmgddkaclneaa
open Go.RowKit

theorem Bag.ftlow {T base : Nat} {w : World} {b : Nat} {v : Value} {l : List Dg} {s : Int} (h : Bag T base w b v l s) : ∀ k, Ft b v k → base ≤ k := fun k hk => (h.ftlt k hk).1
theorem below_tr {B : Nat} {a b c : World} (h : Below B a b) (k : Below B b c) : Below B a c := h.trans k

set_option maxHeartbeats 1000000 in
set_option maxRecDepth 8000 in
theorem known_true (w : World) : Calls Try.prog 21 #[] w fun e w' => e = .returned (.bool true) ∧ Below w.heap.size w w' := by
  go_enter Try.func21, Try.ntmps21
  go_wp2_with fail
  refine (new_any w).mono ?_
  rintro e w1 ⟨rfl, hw1⟩
  have HB1 : Hid (Bag 58 w.heap.size w1 w.heap.size (.slice none 0 0) [] 0) := by rw [hw1]; exact Bag.new _ _ _ (Nat.le_refl _)
  have HL1 : Hid (Below w.heap.size w w1) := by rw [hw1]; exact (Below.refl _ w).alloc (Nat.le_refl _) _
  clear hw1
  go_wp2_with fail
  refine (send_any HB1.out 2 1 0 0 (⟨#[97]⟩) (by decide) (by decide) (by decide)).mono ?_
  rintro e w2 ⟨rfl, v2, hB2, hM2⟩
  have HL2 := hide (HL1.out.trans (hM2.below HL1.out.size HB1.out.ftlow))
  have HB2 : Hid (Bag 58 w.heap.size w2 w.heap.size v2 [⟨1, 2, 1, 0, 0, ⟨#[97]⟩⟩] 1) := hB2
  clear hB2 hM2 HB1 HL1
  go_wp2_with fail
  refine (send_any HB2.out 0 0 2 1 (⟨#[98]⟩) (by decide) (by decide) (by decide)).mono ?_
  rintro e w3 ⟨rfl, v3, hB3, hM3⟩
  have HL3 := hide (HL2.out.trans (hM3.below HL2.out.size HB2.out.ftlow))
  have HB3 : Hid (Bag 58 w.heap.size w3 w.heap.size v3 [⟨1, 2, 1, 0, 0, ⟨#[97]⟩⟩, ⟨2, 0, 0, 2, 1, ⟨#[98]⟩⟩] 2) := hB3
  clear hB3 hM3 HB2 HL2
  go_wp2_with fail
  refine (dup_any (p := 0) HB3.out (by decide) (by decide) (by decide)).mono ?_
  rintro e w4 ⟨rfl, v4, hB4, hM4⟩
  have HL4 := hide (HL3.out.trans (hM4.below HL3.out.size HB3.out.ftlow))
  have HB4 : Hid (Bag 58 w.heap.size w4 w.heap.size v4 [⟨1, 2, 1, 0, 0, ⟨#[97]⟩⟩, ⟨2, 0, 0, 2, 1, ⟨#[98]⟩⟩, ⟨3, 2, 1, 0, 0, ⟨#[97]⟩⟩] 3) := hB4
  clear hB4 hM4 HB3 HL3
  rw [show atE [(⟨1, 2, 1, 0, 0, ⟨#[97]⟩⟩ : Dg), ⟨2, 0, 0, 2, 1, ⟨#[98]⟩⟩] 0 = 0 from rfl, if_pos rfl]
  go_wp2_with fail
  refine (take_any (p := 1) HB4.out).mono ?_
  rintro e w5 ⟨rfl, v5, hB5, hM5⟩
  have HL5 := hide (HL4.out.trans (hM5.below HL4.out.size HB4.out.ftlow))
  have HB5 : Hid (Bag 58 w.heap.size w5 w.heap.size v5 [⟨1, 2, 1, 0, 0, ⟨#[97]⟩⟩, ⟨3, 2, 1, 0, 0, ⟨#[97]⟩⟩] 3) := hB5
  clear hB5 hM5 HB4 HL4
  rw [show atE [(⟨1, 2, 1, 0, 0, ⟨#[97]⟩⟩ : Dg), ⟨2, 0, 0, 2, 1, ⟨#[98]⟩⟩, ⟨3, 2, 1, 0, 0, ⟨#[97]⟩⟩] 1 = 0 from rfl, show atD [(⟨1, 2, 1, 0, 0, ⟨#[97]⟩⟩ : Dg), ⟨2, 0, 0, 2, 1, ⟨#[98]⟩⟩, ⟨3, 2, 1, 0, 0, ⟨#[97]⟩⟩] 1 = ⟨2, 0, 0, 2, 1, ⟨#[98]⟩⟩ from rfl]
  go_wp2_with (first
    | (go_at_call 18; refine (len_any (HB5.out.alloc _)).mono ?_; rintro e w6 ⟨rfl, rfl⟩)
    | (go_at_call 20; refine (sent_any (HB5.out.alloc _)).mono ?_; rintro e w6 ⟨rfl, rfl⟩))
  go_ret
  exact ⟨rfl, HL5.out.alloc HL5.out.size _⟩

theorem atE_none (p : Int) : atE [] p = 30 := by unfold atE; rw [if_neg]; simp
theorem takeL_none (p : Int) : takeL [] p = [] := by unfold takeL; rw [if_neg]; simp

set_option maxHeartbeats 1000000 in
set_option maxRecDepth 8000 in
theorem names_true (w : World) : Calls Try.prog 22 #[] w fun e w' => e = .returned (.bool true) ∧ Below w.heap.size w w' := by
  go_enter Try.func22, Try.ntmps22
  go_wp2_with fail
  refine (new_any w).mono ?_
  rintro e w0 ⟨rfl, hw1⟩
  have HB0 : Hid (Bag 58 w.heap.size w0 w.heap.size (.slice none 0 0) [] 0) := by rw [hw1]; exact Bag.new _ _ _ (Nat.le_refl _)
  have HL0 : Hid (Below w.heap.size w w0) := by rw [hw1]; exact (Below.refl _ w).alloc (Nat.le_refl _) _
  clear hw1
  go_wp2_with fail
  refine (known_true w0).mono ?_
  rintro e w1 ⟨rfl, hb1⟩
  have HB1 := hide (HB0.out.below hb1)
  have HL1 := hide (HL0.out.trans ⟨hb1.os, hb1.tape, hb1.output, hb1.size, fun k hk => hb1.block k (Nat.lt_of_lt_of_le hk HL0.out.size)⟩)
  clear hb1 HB0 HL0
  go_wp2_with fail
  refine (at_any (p := 0) HB1.out).mono ?_
  rintro e w2 ⟨rfl, hb2⟩
  have HB2 := hide (HB1.out.below hb2)
  have HL2 := hide (HL1.out.trans ((Mv.of_below (F := fun _ => False) hb2).below HL1.out.size (fun _ h => h.elim)))
  clear hb2 HB1 HL1
  rw [atE_none]
  go_wp2_with fail
  refine (take_any (p := -1) (HB2.out.alloc _)).mono ?_
  rintro e w3 ⟨rfl, v3, hB3, hM3⟩
  have HL3 := hide ((HL2.out.alloc HL2.out.size _).trans (hM3.below (by rw [World.size_alloc]; exact Nat.le_succ_of_le HL2.out.size) HB2.out.ftlow))
  rw [takeL_none] at hB3
  have HB3 := hide hB3
  clear hB3 hM3 HB2 HL2
  rw [atE_none]
  go_wp2_with fail
  refine (drop_any (p := 0) (HB3.out.alloc _)).mono ?_
  rintro e w4 ⟨rfl, v4, hB4, hM4⟩
  have HL4 := hide ((HL3.out.alloc HL3.out.size _).trans (hM4.below (by rw [World.size_alloc]; exact Nat.le_succ_of_le HL3.out.size) HB3.out.ftlow))
  rw [takeL_none] at hB4
  have HB4 := hide hB4
  clear hB4 hM4 HB3 HL3
  rw [atE_none]
  go_wp2_with fail
  refine (dup_any (p := 0) HB4.out (by decide) (by decide) (by decide)).mono ?_
  rintro e w5 ⟨rfl, v5, hB5, hM5⟩
  have HL5 := hide (HL4.out.trans (hM5.below HL4.out.size HB4.out.ftlow))
  clear hB5 hM5 HB4 HL4
  rw [atE_none, if_neg (by decide)]
  go_wp2
  go_ret
  exact ⟨rfl, HL5.out⟩

set_option maxHeartbeats 400000 in
theorem awake_true (w : World) : Calls Try.prog 8 #[] w fun e w' => e = .returned (.bool true) ∧ Below w.heap.size w w' := by
  go_enter Try.func8, Try.ntmps8
  go_wp2_with fail
  refine (known_true w).mono ?_
  rintro e w1 ⟨rfl, hb1⟩
  go_wp2_with fail
  refine (names_true w1).mono ?_
  rintro e w2 ⟨rfl, hb2⟩
  go_wp2
  go_ret
  exact ⟨rfl, hb1.trans ((Mv.of_below (F := fun _ => False) hb2).below hb1.size (fun _ h => h.elim))⟩
end Go.Proofs.Ytnbmgddkaclneaa
