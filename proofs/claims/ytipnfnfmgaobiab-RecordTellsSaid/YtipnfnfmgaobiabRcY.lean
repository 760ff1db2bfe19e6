import Derived.Test.YtipnfnfmgaobiabRcW
namespace Go.Proofs.Ytipnfnfmgaobiab
open Go.RowKit
open Rc (L V Ch)

theorem ch_eq_iff (a b : Ch) : a = b ↔ a.tx = b.tx ∧ a.k = b.k ∧ a.n = b.n ∧ a.jo = b.jo ∧ a.ba = b.ba ∧ a.sl = b.sl ∧ a.li = b.li ∧ (a.rc = b.rc ∧ a.rb = b.rb) ∧ a.pr = b.pr := by
  constructor
  · rintro rfl; simp
  · rintro ⟨h1, h2, h3, h4, h5, h6, h7, ⟨h8, h9⟩, h10⟩; exact Rc.Ch.ext h2 h3 h4 h5 h6 h7 h8 h9 h10 h1
theorem list_eq_of {α : Type} [Inhabited α] {l m : List α} (h : l.length = m.length) (he : ∀ j, j < l.length → l[j]! = m[j]!) : l = m := by
  apply List.ext_getElem h
  intro i h1 h2
  have := he i h1
  rwa [getElem!_pos l i h1, getElem!_pos m i h2] at this
/-- two changes in boxes -/
structure Two (w0 : World) (X : Nat) (a b : Ch) (s t : Value) (w : World) : Prop where
  a : Ca w X a s
  b : Ca w (X + 1) b t
  bel : Below w0.heap.size w0 w
  hX : X = w0.heap.size
theorem Two.drewN {w0 : World} {X : Nat} {a b : Ch} {s t : Value} {w : World} (h : Two w0 X a b s t w) (n : Nat) : Two w0 X a b s t (w.drewN n) := ⟨h.a, h.b, h.bel.trans ((drewN_below _ n).mono h.bel.size), h.hX⟩
theorem below_drewN {w0 w : World} (h : Below w0.heap.size w0 w) (n : Nat) : Below w0.heap.size w0 (w.drewN n) := h.trans ((drewN_below _ n).mono h.size)
end Go.Proofs.Ytipnfnfmgaobiab
