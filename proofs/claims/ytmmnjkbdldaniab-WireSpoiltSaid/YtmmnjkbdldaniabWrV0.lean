import Derived.Test.YtmmnjkbdldaniabWrP
namespace Go.Proofs.Ytmmnjkbdldaniab
open Go.RowKit Go.Shelf
open Wr (Ms V L)

theorem encB_dec {b : ByteArray} {n : Ms} (h : Wr.decode limP b = (n, 0)) : encB n = b ∧ Wr.check n = 0 ∧ n.rb < 18446744073709551616 := by
  obtain ⟨h1, h2, h3, h4⟩ := Wr.decode_form h
  refine ⟨?_, h2, h4⟩
  unfold encB
  rw [if_pos h2, ← h3]
theorem dec_encB {m : Ms} (hc : Wr.check m = 0) (hb : m.rb < 18446744073709551616) : Wr.decode limP (encB m) = (m, 0) ∧ (encB m).size ≤ 2048 := by
  have hl := Wr.bytes_len hc
  unfold encB
  rw [if_pos hc]
  have hs : (⟨(Wr.bytes m).toArray⟩ : ByteArray).size ≤ 2048 := by show (Wr.bytes m).toArray.size ≤ _; simpa using hl
  exact ⟨Wr.decode_there lim_p hb hc hs (by simp), hs⟩
theorem b_out {w W : World} {o : Obj} (h : Below (w.heap.size + 1) (w.alloc o) W) : Below w.heap.size w W := (below_alloc w o).trans (h.mono (by omega))
theorem mg_in {w W : World} {m : Ms} (h : Below (w.heap.size + 1) (w.alloc (.cells (msgC m) 26)) W) : Mg W w.heap.size m := (h.block _ (by omega)).trans (heap_alloc_new w _)
theorem below_in {w W W' : World} {o : Obj} (h : Below (w.heap.size + 1) (w.alloc o) W) (h' : Below W.heap.size W W') : Below (w.heap.size + 1) (w.alloc o) W' := h.trans (h'.mono (by have := h.size; simp at this; omega))
theorem encB_list {m : Ms} (hc : Wr.check m = 0) : (encB m).data.toList = Wr.bytes m := by unfold encB; rw [if_pos hc]
end Go.Proofs.Ytmmnjkbdldaniab
