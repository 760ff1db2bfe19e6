import Derived.Test.YtjabnddjahhgoaaWrO
import Derived.Laws.EntriesVeiled
import Derived.Laws.ResultCell
import Derived.Laws.Rows
namespace Go.Proofs.Ytjabnddjahhgoaa
open Go.RowKit

/-- a block of one cell -/
def Bx (w : World) (X : Nat) (v : Value) (t : TypeId) : Prop := w.heap[X]? = some (.cells #[v] t (0, 0))
theorem Bx.c {w : World} {X : Nat} {v : Value} {t : TypeId} (h : Bx w X v t) : w.cell? ⟨X, 0, none⟩ = some v := by unfold Bx at h; simp [World.cell?, h]
/-- the boxes of a whole number's field -/
structure W3 (w : World) (X : Nat) (at_ : Addr) (lo hi : Int) : Prop where
  a : Bx w X (.pointer (some at_)) 79
  l : Bx w (X + 1) (.int .i64 lo) 3
  h : Bx w (X + 2) (.int .i64 hi) 3
structure T3 (w : World) (X : Nat) (at_ : Addr) (lo hi : Int) : Prop where
  a : Bx w X (.pointer (some at_)) 81
  l : Bx w (X + 1) (.int .i64 lo) 3
  h : Bx w (X + 2) (.int .i64 hi) 3
def p0 (X : Nat) : Value := .pointer (some ⟨X, 0, none⟩)
theorem hmf : ∀ (fn : Fn) (first cap : Array Value) (w : World), (Instr.makeFunc fn first cap).run Try.prog w = .ok (.func fn first cap) w := fun _ _ _ _ => rfl

theorem cells_set {w : World} {B : Nat} {cs : Array Value} {t : TypeId} (h : w.heap[B]? = some (.cells cs t (0, 0))) (k : Nat) (u : Value) : (w.setCell ⟨B, k, none⟩ u).heap[B]? = some (.cells (cs.setIfInBounds k u) t (0, 0)) := by
  have hlt := lt_of_block h
  have h' : w.heap[B] = .cells cs t (0, 0) := by simpa [Array.getElem?_eq_getElem hlt] using h
  show (w.heap.modify B _)[B]? = _
  rw [Array.getElem?_eq_getElem (by simpa using hlt), Array.getElem_modify_self, h']
  rfl
theorem four_blocks (w : World) (o1 o2 o3 o4 : Obj) : ((((w.alloc o1).alloc o2).alloc o3).alloc o4).heap[w.heap.size]? = some o1 ∧ ((((w.alloc o1).alloc o2).alloc o3).alloc o4).heap[w.heap.size + 1]? = some o2 ∧
    ((((w.alloc o1).alloc o2).alloc o3).alloc o4).heap[w.heap.size + 2]? = some o3 ∧ ((((w.alloc o1).alloc o2).alloc o3).alloc o4).heap[w.heap.size + 3]? = some o4 ∧ Below w.heap.size w ((((w.alloc o1).alloc o2).alloc o3).alloc o4) := by
  refine ⟨?_, ?_, ?_, ?_, ?_⟩
  · rw [Below.heap_alloc _ _ _ (by simp; omega), Below.heap_alloc _ _ _ (by simp; omega), Below.heap_alloc _ _ _ (by simp), heap_alloc_new]
  · rw [Below.heap_alloc _ _ _ (by simp), Below.heap_alloc _ _ _ (by simp)]; simpa using heap_alloc_new (w.alloc o1) o2
  · rw [Below.heap_alloc _ _ _ (by simp)]; simpa using heap_alloc_new ((w.alloc o1).alloc o2) o3
  · simpa using heap_alloc_new (((w.alloc o1).alloc o2).alloc o3) o4
  exact ((((Below.refl _ _).alloc (Nat.le_refl _) _).alloc (by simp) _).alloc (by simp; omega) _).alloc (by simp; omega) _
end Go.Proofs.Ytjabnddjahhgoaa
