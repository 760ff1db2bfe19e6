import Derived.Test.YtajbkgahgnkodaaPkT
namespace Go.Proofs.Ytajbkgahgnkodaa
open Go.RowKit

/-- what holds ahead of each round -/
structure FRel (w : World) (B base : Nat) (b : ByteArray) (p g cap : Nat) (wr : World) : Prop where
  rd : Rd wr B b (p : Int) 0
  hp : p ≤ b.size
  own : wr.ownsRow base 5 1 (.slice (some ⟨g, 0, none⟩) p cap) p (bc (b.data.toList.take p))
  bel : Below w.heap.size w wr

theorem rnum_max {w : World} {B p : Nat} {b : ByteArray} (h : Rd w B b p 0) (hp : p ≤ b.size) (hb : b.size ≤ 140737488351232) :
    Calls Try.prog 21 #[.pointer (some ⟨B, 0, none⟩), .int .u64 18446744073709551615] w (FPost w B b p (.int .u64 (numV b p : Int)) (.int .u64 0) (numQ b p) (numK b p 18446744073709551615 21)) := by
  have := rnum_any (most := 18446744073709551615) h hp hb
  rw [show ((18446744073709551615 : Nat) : Int) = 18446744073709551615 from rfl] at this
  exact this
theorem toNat_max : (9223372036854775807 : Int).toNat = 9223372036854775807 := rfl
theorem rlist_max {w : World} {B p : Nat} {b : ByteArray} (h : Rd w B b p 0) (hp : p ≤ b.size) (hb : b.size ≤ 140737488351232) :
    Calls Try.prog 22 #[.pointer (some ⟨B, 0, none⟩), .int .i64 9223372036854775807] w (FPost w B b p (.int .i64 (numV b p : Int)) (.int .i64 0) (numQ b p) (numK b p 9223372036854775807 23)) := by
  have := rlist_any (most := 9223372036854775807) (by decide) h hp hb
  rw [toNat_max] at this
  exact this
theorem rtext_max {w : World} {B p : Nat} {b : ByteArray} (h : Rd w B b p 0) (hp : p ≤ b.size) (hb : b.size ≤ 140737488351232) :
    Calls Try.prog 24 #[.pointer (some ⟨B, 0, none⟩), .int .i64 9223372036854775807] w (FPost w B b p (.string (textV b p)) (.string ⟨#[]⟩) (numQ b p + numV b p) (textK b p 9223372036854775807)) := by
  have := rtext_any (most := 9223372036854775807) (by decide) h hp hb
  rw [toNat_max] at this
  exact this
theorem pnum_0 (w : World) : Calls Try.prog 10 #[.int .u64 0] w fun e w' => e = .returned (.string ⟨#[0]⟩) ∧ Below w.heap.size w w' := by
  have := pnum_any 0 (by decide) w
  rw [show Pk.enc 0 = [0] from Pk.enc_lt (by decide)] at this; exact this
theorem ptext_0 (w : World) : Calls Try.prog 12 #[.string ⟨#[]⟩] w fun e w' => e = .returned (.string ⟨#[0]⟩) ∧ Below w.heap.size w w' := by
  have := ptext_any ⟨#[]⟩ (by decide) w
  rw [show (⟨#[]⟩ : ByteArray).size = 0 from rfl, show Pk.enc 0 = [0] from Pk.enc_lt (by decide)] at this; exact this
theorem pbits_0 (w : World) : Calls Try.prog 14 #[.int .u64 0] w fun e w' => e = .returned (.string ⟨#[0, 0, 0, 0, 0, 0, 0, 0]⟩) ∧ Below w.heap.size w w' := pbits_any 0 (by decide) w

theorem hide {p : Prop} (h : p) : Hid p := h
end Go.Proofs.Ytajbkgahgnkodaa
