import Derived.Test.YtjabnddjahhgoaaWrA
import Derived.Deep.RegionHeld3
import Derived.Test.YtjabnddjahhgoaaWalkA
namespace Go.Proofs.Ytjabnddjahhgoaa
open Go.RowKit

theorem hide {p : Prop} (h : p) : Hid p := h
/-- the reader's calls, however it stands -/
theorem rnumP {w : World} {B p f most : Nat} {b : ByteArray} (h : Rd w B b p f) (hp : p ≤ b.size) (hb : b.size ≤ 140737488351232) :
    Calls Try.prog 43 #[.pointer (some ⟨B, 0, none⟩), .int .u64 (most : Int)] w fun e w' => e = .returned (.int .u64 ((Wr.rdN b most p f).1 : Int)) ∧ Rd w' B b ((Wr.rdN b most p f).2.1 : Int) ((Wr.rdN b most p f).2.2 : Int) ∧ w.grownBy w' (some B) := by
  by_cases hf : f = 0
  · subst hf
    refine (rnum_any (most := most) h hp hb).mono ?_
    intro e w' hF
    by_cases hk : numK b p most 21 = 0
    · obtain ⟨e1, e2⟩ := hF.ok hk
      unfold Wr.rdN; rw [if_neg (by simp), if_pos hk]; exact ⟨e1, e2, hF.grown⟩
    · obtain ⟨e1, e2⟩ := hF.no hk
      unfold Wr.rdN; rw [if_neg (by simp), if_neg hk]; exact ⟨e1, e2, hF.grown⟩
  · refine (rnum_dead (most := most) h (by omega)).mono ?_
    rintro e w' ⟨e1, hbl⟩
    rw [Wr.rdN_dead hf]; exact ⟨e1, h.below hbl h.lt, grown_below hbl _⟩
theorem rnumQ {w : World} {B p f most : Nat} {b : ByteArray} {x : Int} (h : Rd w B b p f) (hp : p ≤ b.size) (hb : b.size ≤ 140737488351232) (hx : x = (most : Int)) :
    Calls Try.prog 43 #[.pointer (some ⟨B, 0, none⟩), .int .u64 x] w fun e w' => e = .returned (.int .u64 ((Wr.rdN b most p f).1 : Int)) ∧ Rd w' B b ((Wr.rdN b most p f).2.1 : Int) ((Wr.rdN b most p f).2.2 : Int) ∧ w.grownBy w' (some B) := by
  subst hx; exact rnumP h hp hb
theorem rtextP {w : World} {B p f most : Nat} {b : ByteArray} (h : Rd w B b p f) (hp : p ≤ b.size) (hb : b.size ≤ 140737488351232) (hm : most ≤ 9223372036854775807) :
    Calls Try.prog 85 #[.pointer (some ⟨B, 0, none⟩), .int .i64 (most : Int)] w fun e w' => e = .returned (.string (Wr.rdT b most p f).1) ∧ Rd w' B b ((Wr.rdT b most p f).2.1 : Int) ((Wr.rdT b most p f).2.2 : Int) ∧ w.grownBy w' (some B) := by
  by_cases hf : f = 0
  · subst hf
    refine (rtext_any (most := (most : Int)) (by omega) h hp hb).mono ?_
    rw [show ((most : Int)).toNat = most from rfl]
    intro e w' hF
    by_cases hk : textK b p most = 0
    · obtain ⟨e1, e2⟩ := hF.ok hk
      unfold Wr.rdT; rw [if_neg (by simp), if_pos hk]; exact ⟨e1, e2, hF.grown⟩
    · obtain ⟨e1, e2⟩ := hF.no hk
      unfold Wr.rdT; rw [if_neg (by simp), if_neg hk]; exact ⟨e1, e2, hF.grown⟩
  · refine (rtext_dead (most := (most : Int)) h (by omega)).mono ?_
    rintro e w' ⟨e1, hbl⟩
    rw [Wr.rdT_dead hf]; exact ⟨e1, h.below hbl h.lt, grown_below hbl _⟩
theorem rbitsP {w : World} {B p f : Nat} {b : ByteArray} (h : Rd w B b p f) (hp : p ≤ b.size) (hb : b.size ≤ 140737488351232) :
    Calls Try.prog 84 #[.pointer (some ⟨B, 0, none⟩)] w fun e w' => e = .returned (.int .u64 ((Wr.rdB b p f).1 : Int)) ∧ Rd w' B b ((Wr.rdB b p f).2.1 : Int) ((Wr.rdB b p f).2.2 : Int) ∧ w.grownBy w' (some B) := by
  by_cases hf : f = 0
  · subst hf
    refine (rbits_any h hp hb).mono ?_
    intro e w' hF
    by_cases hk : bitsK b p = 0
    · obtain ⟨e1, e2⟩ := hF.ok hk
      unfold Wr.rdB; rw [if_neg (by simp), if_pos hk]; exact ⟨e1, e2, hF.grown⟩
    · obtain ⟨e1, e2⟩ := hF.no hk
      unfold Wr.rdB; rw [if_neg (by simp), if_neg hk]; exact ⟨e1, e2, hF.grown⟩
  · refine (rbits_dead h (by omega)).mono ?_
    rintro e w' ⟨e1, hbl⟩
    rw [Wr.rdB_dead hf]; exact ⟨e1, h.below hbl h.lt, grown_below hbl _⟩

theorem cell_other {w : World} {a c : Addr} {u v : Value} (h : w.cell? c = some v) (hn : c.block ≠ a.block) : (w.setCell a u).cell? c = some v := by
  unfold World.cell? at h ⊢
  rw [Below.heap_setCell w a u _ hn]; exact h
theorem grown_frozen {w w' : World} {r : Option Nat} (g : w.grownBy w' r) {a : Addr} (h : w.frozen? a = false) (hl : a.block < w.heap.size) (hn : some a.block ≠ r) : w'.frozen? a = false := by
  unfold World.frozen? at h ⊢
  rw [g.block a.block hl hn]; exact h
end Go.Proofs.Ytjabnddjahhgoaa
