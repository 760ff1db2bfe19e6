import Derived.Test.YtnbmgddkaclneaaNtB
namespace Go.Proofs.Ytnbmgddkaclneaa
open Go.RowKit

theorem heap_setCell_self (w : World) (g o : Nat) (v : Value) (cur : Array Value) (t : TypeId) (fr : Nat × Nat) (h : w.heap[g]? = some (.cells cur t fr)) : (w.setCell ⟨g, o, none⟩ v).heap[g]? = some (.cells (cur.setIfInBounds o v) t fr) := by
  have hlt := lt_of_block h
  have h' : w.heap[g] = .cells cur t fr := by simpa [Array.getElem?_eq_getElem hlt] using h
  show (w.heap.modify g _)[g]? = _
  rw [Array.getElem?_eq_getElem (by simpa using hlt), Array.getElem_modify_self, h']
  rfl
theorem take_set_succ (L : List Value) (o : Nat) (v : Value) (h : o < L.length) : (L.set o v).take (o + 1) = L.take o ++ [v] := by
  rw [List.set_eq_take_append_cons_drop, if_pos h, List.take_append]
  have : (L.take o).length = o := by rw [List.length_take]; omega
  rw [this, List.take_of_length_le (by omega), show o + 1 - o = 1 by omega]
  rfl
theorem heap_setCells (g : Nat) (t : TypeId) (fr : Nat × Nat) : ∀ (vs : List Value) (o : Nat) (cur : Array Value) (w : World), w.heap[g]? = some (.cells cur t fr) → o + vs.length ≤ cur.size →
    (w.setCells g o vs).heap[g]? = some (.cells (cur.toList.take o ++ vs ++ cur.toList.drop (o + vs.length)).toArray t fr)
  | [], o, cur, w, h, _ => by
    simp only [World.setCells, List.append_nil, List.length_nil, Nat.add_zero, List.take_append_drop, Array.toArray_toList]
    exact h
  | v :: r, o, cur, w, h, hl => by
    simp only [List.length_cons] at hl
    rw [World.setCells, heap_setCells g t fr r (o + 1) _ _ (heap_setCell_self w g o v cur t fr h) (by simp; omega)]
    refine congrArg (fun x : List Value => some (Obj.cells x.toArray t fr)) ?_
    simp only [Array.toList_setIfInBounds, List.length_cons]
    have hlen : o < cur.toList.length := by simp; omega
    rw [List.drop_set_of_lt (by omega), show o + 1 + r.length = o + (r.length + 1) by omega, take_set_succ _ _ _ hlen, List.append_assoc, List.append_assoc, List.append_assoc]
    rfl
theorem grown_setCells (w : World) (g o : Nat) (vs : List Value) : w.grownBy (w.setCells g o vs) (some g) := by
  induction vs generalizing o w with
  | nil => exact ⟨rfl, rfl, rfl, Nat.le_refl _, fun _ _ _ => rfl⟩
  | cons v r ih =>
    have h := ih (w.setCell ⟨g, o, none⟩ v) (o + 1)
    have hs : (w.setCell ⟨g, o, none⟩ v).heap.size = w.heap.size := by show (w.heap.modify g _).size = _; simp
    exact ⟨h.os, h.tape, h.output, by rw [← hs]; exact h.size, fun k hk hn => (h.block k (by rw [hs]; exact hk) hn).trans (Below.heap_setCell w ⟨g, o, none⟩ v k (fun e => hn (by rw [show k = g from e])))⟩

/-- 'clear(s)' at one datagram -/
theorem clear_one (w : World) (ty : TypeId) (b o c : Nat) (hc : ∀ j, j < 6 → (w.cell? ⟨b, o + j, none⟩).isSome = true) (hf : ∀ j, j < 6 → w.frozen? ⟨b, o + j, none⟩ = false) :
    (Builtin.clear_ #[28] ty #[.slice (some ⟨b, o, none⟩) 1 c]).run Try.prog w = .ok (.tuple #[]) (w.setCells b o dg0.cs) := by
  have hv := Try.zeroValue46
  have hst := run_storeCells_cells (P := Try.prog) b o dg0.cs 0 w (by intro j hj; simpa using hc j hj) (by intro j hj; simpa using hf j hj) (by intro v hv'; exact dcs_one_cell [dg0] v (by rw [dcs_one]; exact hv'))
  simp only [Nat.add_zero] at hst
  have hzc : (Builtin.zeroCells (Value.agg #[.int .i64 0, .int .i64 0, .int .i64 0, .int .i64 0, .int .i64 0, .string ⟨#[]⟩]).cells 1).toList = dg0.cs := by
    simp [Builtin.zeroCells, Value.cells, List.range_succ, dg0, Dg.cs]
    rfl
  simp [Builtin.clear_, run_underlying Try.underlying28, hv, hzc, hst]
end Go.Proofs.Ytnbmgddkaclneaa
