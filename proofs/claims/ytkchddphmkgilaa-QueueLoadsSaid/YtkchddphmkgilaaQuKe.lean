import Derived.Test.YtkchddphmkgilaaQuRb
namespace Go.Proofs.Ytkchddphmkgilaa
open Go.RowKit

/-- all but one block is as it was -/
structure Ex (G : Nat) (w w' : World) : Prop where
  os : w'.os = w.os
  tape : w'.tape = w.tape
  output : w'.output = w.output
  size : w.heap.size ≤ w'.heap.size
  block : ∀ k, k < w.heap.size → k ≠ G → w'.heap[k]? = w.heap[k]?
theorem Ex.of_below {G : Nat} {w w' : World} (h : Below w.heap.size w w') : Ex G w w' := ⟨h.os, h.tape, h.output, h.size, fun k hk _ => h.block k hk⟩
theorem Ex.set8a (w : World) (G a : Nat) (r : Rr) : Ex G w (set8a w G a r) := by
  have h := mv_set8a (F := fun k => k = G) (mv_refl _ w) rfl a r
  exact ⟨h.os, h.tape, h.output, h.size, fun k hk hn => h.block k hk hn⟩
/-- what QueueKeeps keeps -/
structure Kk (w0 : World) (b : Nat) (v : Value) (G G2 : Nat) (ad : Option Addr) (ab ao : Nat) (m : Int) (L : List Rr) (w : World) : Prop where
  q : Qt w0 b v m L w
  rb : Rs w (some ⟨G2, 0, none⟩) G2 0 L
  rl : Rs w ad ab ao L
  n1 : ¬ Ft b v G
  n2 : G2 ≠ G
  n3 : 0 < L.length → ab ≠ G
  low : w0.heap.size ≤ G
theorem Kk.ex {w0 w w' : World} {b : Nat} {v : Value} {G G2 : Nat} {ad : Option Addr} {ab ao : Nat} {m : Int} {L : List Rr} (h : Kk w0 b v G G2 ad ab ao m L w) (he : Ex G w w') : Kk w0 b v G G2 ad ab ao m L w' :=
  ⟨⟨h.q.q.keep fun k hk => he.block k (h.q.q.ftlt k hk).2 (fun e => h.n1 (by rw [← e]; exact hk)), h.q.bel.trans ⟨he.os, he.tape, he.output, he.size, fun k hk => he.block k (Nat.lt_of_lt_of_le hk h.q.bel.size) (by have := h.low; omega)⟩⟩,
    h.rb.keep fun h0 => he.block _ (h.rb.lt h0) h.n2, h.rl.keep fun h0 => he.block _ (h.rl.lt h0) (h.n3 h0), h.n1, h.n2, h.n3, h.low⟩
theorem Kk.below {w0 w w' : World} {b : Nat} {v : Value} {G G2 : Nat} {ad : Option Addr} {ab ao : Nat} {m : Int} {L : List Rr} (h : Kk w0 b v G G2 ad ab ao m L w) (hb : Below w.heap.size w w') : Kk w0 b v G G2 ad ab ao m L w' := h.ex (Ex.of_below hb)
theorem own_below {w w' : World} {B : Nat} {e : TypeId} {size n : Nat} {v : Value} {xs : List Value} (h : w.ownsRow B e size v n xs) (hb : Below w.heap.size w w') : w'.ownsRow B e size v n xs := by
  refine ⟨h.1, ?_⟩
  rcases h.2 with h1 | ⟨g, cap, cur, rfl, hg, hh, h2⟩
  · exact .inl h1
  · exact .inr ⟨g, cap, cur, rfl, hg, (hb.block g (lt_of_block hh)).trans hh, h2⟩
theorem own_frozen {w : World} {B g n cap size : Nat} {e : TypeId} {xs : List Value} (h : w.ownsRow B e size (.slice (some ⟨g, 0, none⟩) n cap) n xs) (o : Nat) : w.frozen? ⟨g, o, none⟩ = false := by
  rcases h.2 with ⟨h1, _⟩ | ⟨g', cap', cur, h1, hb, hg, _⟩
  · cases h1
  · injection h1 with h1; injection h1 with h1; injection h1 with h1; subst h1; simp [World.frozen?, hg]
end Go.Proofs.Ytkchddphmkgilaa
