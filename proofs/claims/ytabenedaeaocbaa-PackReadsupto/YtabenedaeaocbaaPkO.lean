import Derived.Test.YtabenedaeaocbaaPkL
namespace Go.Proofs.Ytabenedaeaocbaa
open Go.RowKit

theorem enc_300 : Pk.enc 300 = [172, 2] := by
  rw [Pk.enc_ge (by decide), Pk.enc_lt (by decide)]; rfl
theorem enc_1 : Pk.enc 1 = [1] := by rw [Pk.enc_lt (by decide)]; rfl
theorem pnum_300 (w : World) : Calls Try.prog 24 #[.int .u64 300] w fun e w' => e = .returned (.string ⟨#[172, 2]⟩) ∧ Below w.heap.size w w' := by
  have := pnum_any 300 (by decide) w
  rw [enc_300] at this; exact this
theorem ptext_a (w : World) : Calls Try.prog 25 #[.string ⟨#[97]⟩] w fun e w' => e = .returned (.string ⟨#[1, 97]⟩) ∧ Below w.heap.size w w' := by
  have := ptext_any ⟨#[97]⟩ (by decide) w
  rw [show (⟨#[97]⟩ : ByteArray).size = 1 from rfl, enc_1] at this; exact this
theorem pbits_1 (w : World) : Calls Try.prog 26 #[.int .u64 1] w fun e w' => e = .returned (.string ⟨#[0, 0, 0, 0, 0, 0, 0, 1]⟩) ∧ Below w.heap.size w w' := pbits_any 1 (by decide) w

theorem extract_eq (b : ByteArray) (p n : Nat) : b.extract p (p + n) = ⟨((rest b p).take n).toArray⟩ := by
  apply ByteArray.ext
  apply Array.ext'
  rw [extract_list]
theorem rnum_300 {w : World} {B : Nat} (h : Rd w B ⟨#[172, 2, 1, 97]⟩ 0 0) : Calls Try.prog 11 #[.pointer (some ⟨B, 0, none⟩), .int .u64 300] w fun e w' => e = .returned (.int .u64 300) ∧ Rd w' B ⟨#[172, 2, 1, 97]⟩ 2 0 ∧ w.grownBy w' (some B) := by
  refine (rnum_any (p := 0) (most := 300) h (by decide) (by decide)).mono ?_
  intro e w' hF
  obtain ⟨rfl, hR⟩ := hF.ok (by decide)
  exact ⟨by rw [show numV ⟨#[172, 2, 1, 97]⟩ 0 = 300 by decide]; rfl, by rw [show numQ ⟨#[172, 2, 1, 97]⟩ 0 = 2 by decide] at hR; exact hR, hF.grown⟩
theorem rtext_a {w : World} {B : Nat} (h : Rd w B ⟨#[172, 2, 1, 97]⟩ 2 0) : Calls Try.prog 15 #[.pointer (some ⟨B, 0, none⟩), .int .i64 1] w fun e w' => e = .returned (.string ⟨#[97]⟩) ∧ Rd w' B ⟨#[172, 2, 1, 97]⟩ 4 0 ∧ w.grownBy w' (some B) := by
  refine (rtext_any (p := 2) (most := 1) (by decide) h (by decide) (by decide)).mono ?_
  intro e w' hF
  have hv : textV ⟨#[172, 2, 1, 97]⟩ 2 = ⟨#[97]⟩ := by
    unfold textV
    rw [extract_eq, show numQ ⟨#[172, 2, 1, 97]⟩ 2 = 3 by decide, show numV ⟨#[172, 2, 1, 97]⟩ 2 = 1 by decide]; rfl
  obtain ⟨rfl, hR⟩ := hF.ok (by decide)
  exact ⟨by rw [hv], by rw [show numQ ⟨#[172, 2, 1, 97]⟩ 2 + numV ⟨#[172, 2, 1, 97]⟩ 2 = 4 by decide] at hR; exact hR, hF.grown⟩
theorem rnum_5 {w : World} {B : Nat} (h : Rd w B ⟨#[5]⟩ 0 0) : Calls Try.prog 11 #[.pointer (some ⟨B, 0, none⟩), .int .u64 4] w fun e w' => e = .returned (.int .u64 0) ∧ Rd w' B ⟨#[5]⟩ 0 21 ∧ w.grownBy w' (some B) := by
  refine (rnum_any (p := 0) (most := 4) h (by decide) (by decide)).mono ?_
  intro e w' hF
  obtain ⟨rfl, hR⟩ := hF.no (by decide)
  exact ⟨rfl, by rw [show numK ⟨#[5]⟩ 0 4 21 = 21 by decide] at hR; exact hR, hF.grown⟩

theorem below_of_grown {w w1 w2 : World} {B : Nat} (h : Below w.heap.size w w1) (hB : w.heap.size ≤ B) (g : w1.grownBy w2 (some B)) : Below w.heap.size w w2 :=
  h.trans ⟨g.os, g.tape, g.output, g.size, fun k hk => g.block k (Nat.lt_of_lt_of_le hk h.size) (by simp; omega)⟩
theorem below_tr {a b c : World} (h : Below a.heap.size a b) (k : Below b.heap.size b c) : Below a.heap.size a c := h.trans (k.mono h.size)
theorem below_dn {a b : World} (h : Below a.heap.size a b) (n : Nat) : Below a.heap.size a (b.drewN n) := below_drewN h n

set_option maxHeartbeats 1000000 in
theorem known_true (w : World) : Calls Try.prog 9 #[] w fun e w' => e = .returned (.bool true) ∧ Below w.heap.size w w' := by
  go_enter Try.func9, Try.ntmps9
  go_wp2_with fail
  refine (read_any ⟨#[172, 2, 1, 97]⟩ w).mono ?_
  rintro e w1 ⟨rfl, hR1, hb1⟩
  go_wp2_with fail
  refine (pnum_300 w1).mono ?_
  rintro e w2 ⟨rfl, hb2⟩
  go_wp2_with fail
  refine (ptext_a w2).mono ?_
  rintro e w3 ⟨rfl, hb3⟩
  go_wp2_with fail
  refine (pbits_1 w3).mono ?_
  rintro e w4 ⟨rfl, hb4⟩
  have hb14 := below_tr (below_tr hb2 hb3) hb4
  have hR4 := hR1.below hb14 hR1.lt
  have hb04 := below_tr hb1 hb14
  clear hb1 hb2 hb3 hb4 hb14 hR1
  go_wp2_with fail
  refine (rnum_300 hR4).mono ?_
  rintro e w5 ⟨rfl, hR5, hg5⟩
  have hb5 := below_of_grown hb04 (Nat.le_refl _) hg5
  clear hR4 hb04 hg5
  go_wp2_with fail
  refine (rtext_a hR5).mono ?_
  rintro e w6 ⟨rfl, hR6, hg6⟩
  have hb6 := below_of_grown hb5 (Nat.le_refl _) hg6
  clear hR5 hb5 hg6
  have HE : Hid (Calls Try.prog 20 #[.pointer (some ⟨w.heap.size, 0, none⟩)] w6 fun e w' => e = .returned (.tuple #[.int .i64 0, .int .i64 0]) ∧ ∃ n, w' = w6.drewN n) := end_any hR6 (by decide) (by decide) (by decide)
  have HL : Hid (∀ n, Calls Try.prog 23 #[.pointer (some ⟨w.heap.size, 0, none⟩)] (w6.drewN n) fun e w' => e = .returned (.int .i64 0) ∧ ∃ m, w' = (w6.drewN n).drewN m) := fun n => left_any (hR6.drew n) (by decide) (by decide) (by decide)
  go_wp2_with (first
    | (go_at_call 20; refine HE.out.mono ?_; rintro e w7 ⟨rfl, n7, rfl⟩)
    | (go_at_call 22; refine (at_any (hR6.drew _)).mono ?_; rintro e w8 ⟨rfl, rfl⟩)
    | (go_at_call 23; refine (HL.out _).mono ?_; rintro e w9 ⟨rfl, n9, rfl⟩))
  go_ret
  exact ⟨rfl, below_dn hb6 _⟩
end Go.Proofs.Ytabenedaeaocbaa
