import Derived.Test.YtapcmmljdpallaaPkL
namespace Go.Proofs.Ytapcmmljdpallaa
open Go.RowKit

theorem enc_300 : Pk.enc 300 = [172, 2] := by
  rw [Pk.enc_ge (by decide), Pk.enc_lt (by decide)]; rfl
theorem enc_1 : Pk.enc 1 = [1] := by rw [Pk.enc_lt (by decide)]; rfl
theorem pnum_300 (w : World) : Calls Try.prog 29 #[.int .u64 300] w fun e w' => e = .returned (.string ⟨#[172, 2]⟩) ∧ Below w.heap.size w w' := by
  have := pnum_any 300 (by decide) w
  rw [enc_300] at this; exact this
theorem ptext_a (w : World) : Calls Try.prog 80 #[.string ⟨#[97]⟩] w fun e w' => e = .returned (.string ⟨#[1, 97]⟩) ∧ Below w.heap.size w w' := by
  have := ptext_any ⟨#[97]⟩ (by decide) w
  rw [show (⟨#[97]⟩ : ByteArray).size = 1 from rfl, enc_1] at this; exact this
theorem pbits_1 (w : World) : Calls Try.prog 74 #[.int .u64 1] w fun e w' => e = .returned (.string ⟨#[0, 0, 0, 0, 0, 0, 0, 1]⟩) ∧ Below w.heap.size w w' := pbits_any 1 (by decide) w

theorem extract_eq (b : ByteArray) (p n : Nat) : b.extract p (p + n) = ⟨((rest b p).take n).toArray⟩ := by
  apply ByteArray.ext
  apply Array.ext'
  rw [extract_list]
theorem rnum_300 {w : World} {B : Nat} (h : Rd w B ⟨#[172, 2, 1, 97]⟩ 0 0) : Calls Try.prog 24 #[.pointer (some ⟨B, 0, none⟩), .int .u64 300] w fun e w' => e = .returned (.int .u64 300) ∧ Rd w' B ⟨#[172, 2, 1, 97]⟩ 2 0 ∧ w.grownBy w' (some B) := by
  refine (rnum_any (p := 0) (most := 300) h (by decide) (by decide)).mono ?_
  intro e w' hF
  obtain ⟨rfl, hR⟩ := hF.ok (by decide)
  exact ⟨by rw [show numV ⟨#[172, 2, 1, 97]⟩ 0 = 300 by decide]; rfl, by rw [show numQ ⟨#[172, 2, 1, 97]⟩ 0 = 2 by decide] at hR; exact hR, hF.grown⟩
theorem rtext_a {w : World} {B : Nat} (h : Rd w B ⟨#[172, 2, 1, 97]⟩ 2 0) : Calls Try.prog 82 #[.pointer (some ⟨B, 0, none⟩), .int .i64 1] w fun e w' => e = .returned (.string ⟨#[97]⟩) ∧ Rd w' B ⟨#[172, 2, 1, 97]⟩ 4 0 ∧ w.grownBy w' (some B) := by
  refine (rtext_any (p := 2) (most := 1) (by decide) h (by decide) (by decide)).mono ?_
  intro e w' hF
  have hv : textV ⟨#[172, 2, 1, 97]⟩ 2 = ⟨#[97]⟩ := by
    unfold textV
    rw [extract_eq, show numQ ⟨#[172, 2, 1, 97]⟩ 2 = 3 by decide, show numV ⟨#[172, 2, 1, 97]⟩ 2 = 1 by decide]; rfl
  obtain ⟨rfl, hR⟩ := hF.ok (by decide)
  exact ⟨by rw [hv], by rw [show numQ ⟨#[172, 2, 1, 97]⟩ 2 + numV ⟨#[172, 2, 1, 97]⟩ 2 = 4 by decide] at hR; exact hR, hF.grown⟩
theorem rnum_5 {w : World} {B : Nat} (h : Rd w B ⟨#[5]⟩ 0 0) : Calls Try.prog 24 #[.pointer (some ⟨B, 0, none⟩), .int .u64 4] w fun e w' => e = .returned (.int .u64 0) ∧ Rd w' B ⟨#[5]⟩ 0 21 ∧ w.grownBy w' (some B) := by
  refine (rnum_any (p := 0) (most := 4) h (by decide) (by decide)).mono ?_
  intro e w' hF
  obtain ⟨rfl, hR⟩ := hF.no (by decide)
  exact ⟨rfl, by rw [show numK ⟨#[5]⟩ 0 4 21 = 21 by decide] at hR; exact hR, hF.grown⟩

theorem below_of_grown {w w1 w2 : World} {B : Nat} (h : Below w.heap.size w w1) (hB : w.heap.size ≤ B) (g : w1.grownBy w2 (some B)) : Below w.heap.size w w2 :=
  h.trans ⟨g.os, g.tape, g.output, g.size, fun k hk => g.block k (Nat.lt_of_lt_of_le hk h.size) (by simp; omega)⟩
theorem below_tr {a b c : World} (h : Below a.heap.size a b) (k : Below b.heap.size b c) : Below a.heap.size a c := h.trans (k.mono h.size)
theorem below_dn {a b : World} (h : Below a.heap.size a b) (n : Nat) : Below a.heap.size a (b.drewN n) := below_drewN h n

end Go.Proofs.Ytapcmmljdpallaa
