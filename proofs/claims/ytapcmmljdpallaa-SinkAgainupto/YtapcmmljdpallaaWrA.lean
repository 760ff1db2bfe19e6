import Derived.Test.YtapcmmljdpallaaWrO
import Derived.Laws.EntriesVeiled
import Derived.Laws.ResultCell
import Derived.Laws.Rows
namespace Go.Proofs.Ytapcmmljdpallaa
open Go.RowKit

/-- a block of one cell -/
def Bx (w : World) (X : Nat) (v : Value) (t : TypeId) : Prop := w.heap[X]? = some (.cells #[v] t (0, 0))
theorem Bx.c {w : World} {X : Nat} {v : Value} {t : TypeId} (h : Bx w X v t) : w.cell? ⟨X, 0, none⟩ = some v := by unfold Bx at h; simp [World.cell?, h]
/-- the boxes of a whole number's field -/
structure W3 (w : World) (X : Nat) (at_ : Addr) (lo hi : Int) : Prop where
  a : Bx w X (.pointer (some at_)) 123
  l : Bx w (X + 1) (.int .i64 lo) 3
  h : Bx w (X + 2) (.int .i64 hi) 3
structure T3 (w : World) (X : Nat) (at_ : Addr) (lo hi : Int) : Prop where
  a : Bx w X (.pointer (some at_)) 128
  l : Bx w (X + 1) (.int .i64 lo) 3
  h : Bx w (X + 2) (.int .i64 hi) 3
def p0 (X : Nat) : Value := .pointer (some ⟨X, 0, none⟩)
def wF (X : Nat) : Array Value := #[.func (.func 66) #[] #[p0 (X + 1), p0 X, p0 (X + 2)], .func (.func 67) #[] #[p0 X], .func (.func 68) #[] #[p0 X], .func (.func 69) #[] #[p0 (X + 2), p0 X]]
def tF (X : Nat) : Array Value := #[.func (.func 77) #[] #[p0 (X + 1), p0 X, p0 (X + 2)], .func (.func 78) #[] #[p0 X], .func (.func 79) #[] #[p0 X], .func (.func 81) #[] #[p0 (X + 2), p0 X]]
theorem hmf : ∀ (fn : Fn) (first cap : Array Value) (w : World), (Instr.makeFunc fn first cap).run Try.prog w = .ok (.func fn first cap) w := fun _ _ _ _ => rfl

theorem cells_set {w : World} {B : Nat} {cs : Array Value} {t : TypeId} (h : w.heap[B]? = some (.cells cs t (0, 0))) (k : Nat) (u : Value) : (w.setCell ⟨B, k, none⟩ u).heap[B]? = some (.cells (cs.setIfInBounds k u) t (0, 0)) := by
  have hlt := lt_of_block h
  have h' : w.heap[B] = .cells cs t (0, 0) := by simpa [Array.getElem?_eq_getElem hlt] using h
  show (w.heap.modify B _)[B]? = _
  rw [Array.getElem?_eq_getElem (by simpa using hlt), Array.getElem_modify_self, h']
  rfl
theorem four_blocks (w : World) (o1 o2 o3 o4 : Obj) : ((((w.alloc o1).alloc o2).alloc o3).alloc o4).heap[w.heap.size]? = some o1 ∧ ((((w.alloc o1).alloc o2).alloc o3).alloc o4).heap[w.heap.size + 1]? = some o2 ∧
    ((((w.alloc o1).alloc o2).alloc o3).alloc o4).heap[w.heap.size + 2]? = some o3 ∧ ((((w.alloc o1).alloc o2).alloc o3).alloc o4).heap[w.heap.size + 3]? = some o4 ∧ Below w.heap.size w ((((w.alloc o1).alloc o2).alloc o3).alloc o4) := by
  refine ⟨?_, ?_, ?_, ?_, ?_⟩
  · rw [Below.heap_alloc _ _ _ (by simp; omega), Below.heap_alloc _ _ _ (by simp; omega), Below.heap_alloc _ _ _ (by simp), heap_alloc_new]
  · rw [Below.heap_alloc _ _ _ (by simp), Below.heap_alloc _ _ _ (by simp)]; simpa using heap_alloc_new (w.alloc o1) o2
  · rw [Below.heap_alloc _ _ _ (by simp)]; simpa using heap_alloc_new ((w.alloc o1).alloc o2) o3
  · simpa using heap_alloc_new (((w.alloc o1).alloc o2).alloc o3) o4
  exact ((((Below.refl _ _).alloc (Nat.le_refl _) _).alloc (by simp) _).alloc (by simp; omega) _).alloc (by simp; omega) _
set_option maxHeartbeats 400000 in
theorem wholeAt_any (at_ : Addr) (lo hi : Int) (w : World) :
    Calls Try.prog 55 #[.pointer (some at_), .int .i64 lo, .int .i64 hi] w fun e w' => e = .returned (.agg (wF w.heap.size)) ∧ Below w.heap.size w w' ∧ w.heap.size + 3 < w'.heap.size ∧ W3 w' w.heap.size at_ lo hi := by
  have hmf := hmf
  go_enter Try.func55, Try.ntmps55
  go_wp2
  obtain ⟨b1, b2, b3, b4, bb⟩ := four_blocks w (.cells #[.pointer (some at_)] 123) (.cells #[.int .i64 lo] 3) (.cells #[.int .i64 hi] 3) (.cells (wF w.heap.size) 81)
  exact bodyPost_ret (results_cell_row (p := 6) (ty := 81) rfl _ _ (w.heap.size + 3) 81 _ (0, 0) _ rfl b4 Try.underlying81 rfl (by kernel_rfl)) rfl ⟨rfl, bb, lt_of_block b4, b1, b2, b3⟩
set_option maxHeartbeats 400000 in
theorem textAt_any (at_ : Addr) (lo hi : Int) (w : World) :
    Calls Try.prog 59 #[.pointer (some at_), .int .i64 lo, .int .i64 hi] w fun e w' => e = .returned (.agg (tF w.heap.size)) ∧ Below w.heap.size w w' ∧ w.heap.size + 3 < w'.heap.size ∧ T3 w' w.heap.size at_ lo hi := by
  have hmf := hmf
  go_enter Try.func59, Try.ntmps59
  go_wp2
  obtain ⟨b1, b2, b3, b4, bb⟩ := four_blocks w (.cells #[.pointer (some at_)] 128) (.cells #[.int .i64 lo] 3) (.cells #[.int .i64 hi] 3) (.cells (tF w.heap.size) 81)
  exact bodyPost_ret (results_cell_row (p := 6) (ty := 81) rfl _ _ (w.heap.size + 3) 81 _ (0, 0) _ rfl b4 Try.underlying81 rfl (by kernel_rfl)) rfl ⟨rfl, bb, lt_of_block b4, b1, b2, b3⟩
end Go.Proofs.Ytapcmmljdpallaa
