import Derived.Test.YtkchddphmkgilaaQuU
namespace Go.Proofs.Ytkchddphmkgilaa
open Go.RowKit

theorem Rs.own0 {w : World} {B g cap : Nat} {L : List Rr} (h : w.ownsRow B 30 8 (.slice (some ⟨g, 0, none⟩) L.length cap) L.length (rcs L)) : Rs w (some ⟨g, 0, none⟩) g 0 L := by
  obtain ⟨ab, h1, h2, _⟩ := Rs.own h
  rcases h2 with e | e
  · cases e
  · injection e with e; injection e with e; subst e; exact h1
/-- a queue that the law made -/
structure Qt (w0 : World) (b : Nat) (v : Value) (m : Int) (L : List Rr) (w : World) : Prop where
  q : Qm 47 w0.heap.size w b v m L
  bel : Below w0.heap.size w0 w
theorem Qt.below {w0 w w' : World} {b : Nat} {v : Value} {m : Int} {L : List Rr} (h : Qt w0 b v m L w) (hb : Below w.heap.size w w') : Qt w0 b v m L w' := ⟨h.q.below hb, h.bel.trans (hb.mono h.bel.size)⟩
theorem Qt.mv {w0 w w' : World} {b : Nat} {v v' : Value} {m : Int} {L L' : List Rr} (h : Qt w0 b v m L w) (hq : Qm 47 w0.heap.size w' b v' m L') (hm : Mv (Ft b v) (Ft b v') w w') : Qt w0 b v' m L' w' := ⟨hq, h.bel.trans (hm.below h.bel.size fun k hk => (h.q.ftlt k hk).1)⟩
theorem Qt.alloc {w0 w : World} {b : Nat} {v : Value} {m : Int} {L : List Rr} (h : Qt w0 b v m L w) (o : Obj) : Qt w0 b v m L (w.alloc o) := h.below (below_alloc w o)
/-- an address in a block -/
def Ad (w : World) (H : Nat) (n l : Int) : Prop := w.heap[H]? = some (.cells #[.int .i64 n, .int .i64 l] 25 (0, 0))
theorem Ad.lt {w : World} {H : Nat} {n l : Int} (h : Ad w H n l) : H < w.heap.size := lt_of_block h
theorem Ad.c0 {w : World} {H : Nat} {n l : Int} (h : Ad w H n l) : w.cell? ⟨H, 0, none⟩ = some (.int .i64 n) := by unfold Ad at h; simp [World.cell?, h]
theorem Ad.c1 {w : World} {H : Nat} {n l : Int} (h : Ad w H n l) : w.cell? ⟨H, 1, none⟩ = some (.int .i64 l) := by unfold Ad at h; simp [World.cell?, h]
theorem Ad.below {w w' : World} {H : Nat} {n l : Int} (h : Ad w H n l) (hb : Below w.heap.size w w') : Ad w' H n l := (hb.block _ h.lt).trans h
theorem Ad.mv {w w' : World} {H : Nat} {n l : Int} {F F' : Nat → Prop} (h : Ad w H n l) (hm : Mv F F' w w') (hf : ¬ F H) : Ad w' H n l := (hm.block _ h.lt hf).trans h

end Go.Proofs.Ytkchddphmkgilaa
