import Derived.Test.YtapcmmljdpallaaWrF
import Derived.Deep.Cut
import Derived.Great.BuildSlice
import Derived.Great.Walk
import Derived.Deep.AppendLies
import Derived.Laws.RangeAny
import Derived.Laws.RangeString
namespace Go.Proofs.Ytapcmmljdpallaa
set_option maxRecDepth 20000
open Go.RowKit Go.Shelf
open Wr (Ms V L)

theorem fieldOf_any {w : World} {A : Nat} {m : Ms} (h : Mg w A m) (l : L) : Calls Try.prog 39 #[.pointer (some ⟨A, 0, none⟩), .int .i32 (chr l)] w (FOPost A m.k l w) := by
  cases l
  · exact fieldOf_S h
  · exact fieldOf_N h
  · exact fieldOf_J h
  · exact fieldOf_B h
  · exact fieldOf_I h
  · exact fieldOf_C h
  · exact fieldOf_R h
  · exact fieldOf_T h
  · exact fieldOf_P h

def namesC : Array Value := #[.string ⟨#[]⟩, .string ⟨#[]⟩, .string ⟨#[83, 78]⟩, .string ⟨#[83, 78, 66]⟩, .string ⟨#[83, 78, 66, 67, 82]⟩, .string ⟨#[66, 73, 84]⟩, .string ⟨#[74, 66, 73, 84]⟩, .string ⟨#[83]⟩, .string ⟨#[83, 78]⟩, .string ⟨#[83, 78, 74, 66, 80]⟩, .string ⟨#[83, 78]⟩, .string ⟨#[83, 78]⟩, .string ⟨#[83, 78]⟩, .string ⟨#[83, 78]⟩, .string ⟨#[66, 67]⟩, .string ⟨#[74, 66, 67]⟩, .string ⟨#[74, 66]⟩]
set_option maxRecDepth 20000 in
set_option maxHeartbeats 1000000 in
theorem named_any (w : World) : Calls Try.prog 38 #[] w fun e w' => e = .returned (.agg namesC) ∧ Below w.heap.size w w' := by
  go_enter Try.func38, Try.ntmps38
  refine wp_seq (wp_region_list ?_)
  refine Great.wpList_allocTo rfl _ rfl (.pointer (some ⟨w.heap.size, 0, none⟩)) (.cells (Array.replicate 17 (.string ⟨#[]⟩)) 105) (by kernel_rfl) ?_
  show Code.wp _ _ _ _ _
  refine wp_seq (wp_region_list ?_)
  refine wpList_buildTo rfl 105 _ rfl _ rfl namesC (by kernel_rfl) ?_
  refine wpList_store_row rfl 105 _ _ rfl w.heap.size namesC (by kernel_rfl) (by kernel_rfl) 105 (Array.replicate 17 (.string ⟨#[]⟩)) (heap_alloc_new w _) (by kernel_rfl) (by kernel_rfl) (by kernel_rfl) ?_
  show Code.wp _ _ _ _ _
  refine wp_ret ?_
  have hb : ((w.alloc (.cells (Array.replicate 17 (.string ⟨#[]⟩)) 105)).setRow w.heap.size namesC).heap[w.heap.size]? = some (.cells namesC 105 (0, 0))  := setRow_heap _ _ _ _ _ _ (heap_alloc_new w _)
  refine bodyPost_ret (results_cell_row (p := 0) (ty := 105) (by kernel_rfl) _ _ w.heap.size 105 namesC (0, 0) (.array 17 9) (by kernel_rfl) hb (by kernel_rfl) rfl (by kernel_rfl)) (by kernel_rfl) ⟨rfl, ?_⟩
  exact ⟨rfl, rfl, rfl, by simp [World.setRow], fun i hi => (setRow_other _ _ _ _ (by omega)).trans (heap_alloc_old w _ hi)⟩

def lstr (ls : List L) : ByteArray := ⟨(ls.map fun l => UInt8.ofNat (chr l).toNat).toArray⟩
theorem lstr_size (ls : List L) : (lstr ls).size = ls.length := by show (List.toArray _).size = _; simp
theorem lstr_dec (ls : List L) (i : Nat) (h : i < ls.length) : Utf8.decode (lstr ls) i = ((chr ls[i]).toNat, 1) := by
  have h' : i < (lstr ls).size := by rw [lstr_size]; exact h
  have e : ((lstr ls)[i]'h') = UInt8.ofNat (chr ls[i]).toNat := by
    have t : ((ls.map fun l => UInt8.ofNat (chr l).toNat).toArray)[i]'(by simpa using h) = UInt8.ofNat (chr ls[i]).toNat := by simp
    exact t
  have e2 : ((lstr ls)[i]'h').toNat = (chr ls[i]).toNat := by rw [e]; cases ls[i] <;> rfl
  rw [decode_ascii _ _ h' (by rw [e2]; cases ls[i] <;> decide), e2]
theorem chr_nat (l : L) : ((chr l).toNat : Int) = chr l := by cases l <;> rfl
theorem names_at (k : Int) (h0 : 0 ≤ k) (h1 : k ≤ 16) (W : World) : (Instr.index 105 (.agg namesC) (.int .i64 k)).run Try.prog W = .ok (.string (lstr (Wr.letters k))) W := by
  have : k = 0 ∨ k = 1 ∨ k = 2 ∨ k = 3 ∨ k = 4 ∨ k = 5 ∨ k = 6 ∨ k = 7 ∨ k = 8 ∨ k = 9 ∨ k = 10 ∨ k = 11 ∨ k = 12 ∨ k = 13 ∨ k = 14 ∨ k = 15 ∨ k = 16 := by omega
  rcases this with rfl | rfl | rfl | rfl | rfl | rfl | rfl | rfl | rfl | rfl | rfl | rfl | rfl | rfl | rfl | rfl | rfl <;> rfl

def iterSet (w : World) (I : Nat) (s : ByteArray) (pos : Nat) : World := { w with heap := w.heap.setIfInBounds I (.stringIter s pos) }
theorem next_at {w : World} {I pos : Nat} {s : ByteArray} (h : w.heap[I]? = some (.stringIter s pos)) (hp : pos < s.size) (ty : TypeId) :
    (Instr.next (.pointer (some ⟨I, 0, none⟩)) true ty).run Try.prog w = .ok (.tuple #[.bool true, .int .i64 pos, .int .i32 (Utf8.decode s pos).1]) (iterSet w I s (pos + (Utf8.decode s pos).2)) := by
  simp only [Instr.next, getObj, setObj, Sem.run_bind, Sem.run, h, Result.andThen, hp, if_true]
  simp [goInt, iterSet]
theorem next_end {w : World} {I pos : Nat} {s : ByteArray} (h : w.heap[I]? = some (.stringIter s pos)) (hp : ¬ pos < s.size) (ty : TypeId) :
    (Instr.next (.pointer (some ⟨I, 0, none⟩)) true ty).run Try.prog w = .ok (.tuple #[.bool false]) w := by
  simp only [Instr.next, getObj, setObj, Sem.run_bind, Sem.run, h, Result.andThen, hp, if_false]
  simp
theorem iterSet_same {w : World} {I pos : Nat} {s : ByteArray} (h : I < w.heap.size) : (iterSet w I s pos).heap[I]? = some (.stringIter s pos) := by
  show (w.heap.setIfInBounds I _)[I]? = _
  simp [h]
theorem iterSet_other {w : World} {I pos j : Nat} {s : ByteArray} (h : j ≠ I) : (iterSet w I s pos).heap[j]? = w.heap[j]? := by
  show (w.heap.setIfInBounds I _)[j]? = _
  rw [Array.getElem?_setIfInBounds_ne (Ne.symm h)]
theorem iterSet_size (w : World) (I pos : Nat) (s : ByteArray) : (iterSet w I s pos).heap.size = w.heap.size := by
  show (w.heap.setIfInBounds I _).size = _
  simp
end Go.Proofs.Ytapcmmljdpallaa
