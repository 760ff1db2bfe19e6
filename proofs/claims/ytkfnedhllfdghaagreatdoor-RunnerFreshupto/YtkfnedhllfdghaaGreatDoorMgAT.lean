import Derived.Test.YtkfnedhllfdghaaGreatDoorMgAS
import Derived.Deep.Cut
import Derived.Great.BuildSlice
import Derived.Great.Walk

section
namespace Go.Proofs.YtkfnedhllfdghaaGreatDoor
set_option maxRecDepth 20000
open Go.RowKit Go.Shelf

/-- the table's cells -/
def meansC : Array Value := #[.nilFunc, .nilFunc, .nilFunc, .nilFunc, .nilFunc, .func (.func 223) #[] #[], .func (.func 224) #[] #[], .nilFunc, .nilFunc, .nilFunc, .func (.func 225) #[] #[], .nilFunc, .nilFunc, .func (.func 226) #[] #[], .nilFunc, .nilFunc, .func (.func 227) #[] #[], .nilFunc, .nilFunc, .func (.func 228) #[] #[], .nilFunc, .nilFunc, .func (.func 229) #[] #[], .nilFunc, .nilFunc, .func (.func 230) #[] #[], .nilFunc, .nilFunc, .func (.func 231) #[] #[], .nilFunc, .nilFunc, .func (.func 232) #[] #[], .nilFunc, .func (.func 233) #[] #[], .nilFunc, .nilFunc, .func (.func 234) #[] #[], .nilFunc, .nilFunc, .func (.func 235) #[] #[], .nilFunc, .nilFunc, .nilFunc, .nilFunc, .func (.func 236) #[] #[], .nilFunc, .nilFunc, .func (.func 237) #[] #[], .nilFunc, .nilFunc, .func (.func 238) #[] #[], .nilFunc, .nilFunc, .func (.func 239) #[] #[], .nilFunc, .nilFunc, .func (.func 240) #[] #[], .nilFunc, .nilFunc, .func (.func 241) #[] #[], .nilFunc, .nilFunc, .func (.func 242) #[] #[], .nilFunc, .nilFunc, .func (.func 243) #[] #[], .nilFunc, .nilFunc, .func (.func 244) #[] #[], .nilFunc, .nilFunc, .func (.func 245) #[] #[], .nilFunc, .nilFunc, .func (.func 246) #[] #[]]
set_option maxRecDepth 20000 in
set_option maxHeartbeats 1000000 in
theorem meanings_any (w : World) : Calls Tryz.prog 189 #[] w fun e w' => e = .returned (.agg meansC) ∧ Below w.heap.size w w' := by
  go_enter Tryz.func189, Tryz.ntmps189
  refine wp_seq (wp_region_list ?_)
  refine Great.wpList_allocTo rfl _ rfl (.pointer (some ⟨w.heap.size, 0, none⟩)) (.cells (Array.replicate 75 .nilFunc) 264) (by kernel_rfl) ?_
  show Code.wp _ _ _ _ _
  refine wp_seq (wp_region_list ?_)
  refine wpList_buildTo rfl 263 _ rfl _ rfl #[.nilFunc, .nilFunc, .func (.func 223) #[] #[]] (by kernel_rfl) ?_
  refine wpList_buildTo rfl 263 _ rfl _ rfl #[.func (.func 224) #[] #[], .nilFunc, .nilFunc] (by kernel_rfl) ?_
  refine wpList_buildTo rfl 263 _ rfl _ rfl #[.nilFunc, .func (.func 225) #[] #[], .nilFunc] (by kernel_rfl) ?_
  refine wpList_buildTo rfl 263 _ rfl _ rfl #[.nilFunc, .func (.func 226) #[] #[], .nilFunc] (by kernel_rfl) ?_
  refine wpList_buildTo rfl 263 _ rfl _ rfl #[.nilFunc, .func (.func 227) #[] #[], .nilFunc] (by kernel_rfl) ?_
  refine wpList_buildTo rfl 263 _ rfl _ rfl #[.nilFunc, .func (.func 228) #[] #[], .nilFunc] (by kernel_rfl) ?_
  refine wpList_buildTo rfl 263 _ rfl _ rfl #[.nilFunc, .func (.func 229) #[] #[], .nilFunc] (by kernel_rfl) ?_
  refine wpList_buildTo rfl 263 _ rfl _ rfl #[.nilFunc, .func (.func 230) #[] #[], .nilFunc] (by kernel_rfl) ?_
  refine wpList_buildTo rfl 263 _ rfl _ rfl #[.nilFunc, .func (.func 231) #[] #[], .nilFunc] (by kernel_rfl) ?_
  refine wpList_buildTo rfl 263 _ rfl _ rfl #[.nilFunc, .func (.func 232) #[] #[], .nilFunc] (by kernel_rfl) ?_
  refine wpList_buildTo rfl 263 _ rfl _ rfl #[.func (.func 233) #[] #[], .nilFunc, .nilFunc] (by kernel_rfl) ?_
  refine wpList_buildTo rfl 263 _ rfl _ rfl #[.func (.func 234) #[] #[], .nilFunc, .nilFunc] (by kernel_rfl) ?_
  refine wpList_buildTo rfl 263 _ rfl _ rfl #[.func (.func 235) #[] #[], .nilFunc, .nilFunc] (by kernel_rfl) ?_
  refine wpList_buildTo rfl 263 _ rfl _ rfl #[.nilFunc, .nilFunc, .func (.func 236) #[] #[]] (by kernel_rfl) ?_
  refine wpList_buildTo rfl 263 _ rfl _ rfl #[.nilFunc, .nilFunc, .func (.func 237) #[] #[]] (by kernel_rfl) ?_
  refine wpList_buildTo rfl 263 _ rfl _ rfl #[.nilFunc, .nilFunc, .func (.func 238) #[] #[]] (by kernel_rfl) ?_
  refine wpList_buildTo rfl 263 _ rfl _ rfl #[.nilFunc, .nilFunc, .func (.func 239) #[] #[]] (by kernel_rfl) ?_
  refine wpList_buildTo rfl 263 _ rfl _ rfl #[.nilFunc, .nilFunc, .func (.func 240) #[] #[]] (by kernel_rfl) ?_
  refine wpList_buildTo rfl 263 _ rfl _ rfl #[.nilFunc, .nilFunc, .func (.func 241) #[] #[]] (by kernel_rfl) ?_
  refine wpList_buildTo rfl 263 _ rfl _ rfl #[.nilFunc, .nilFunc, .func (.func 242) #[] #[]] (by kernel_rfl) ?_
  refine wpList_buildTo rfl 263 _ rfl _ rfl #[.nilFunc, .nilFunc, .func (.func 243) #[] #[]] (by kernel_rfl) ?_
  refine wpList_buildTo rfl 263 _ rfl _ rfl #[.nilFunc, .nilFunc, .func (.func 244) #[] #[]] (by kernel_rfl) ?_
  refine wpList_buildTo rfl 263 _ rfl _ rfl #[.nilFunc, .nilFunc, .func (.func 245) #[] #[]] (by kernel_rfl) ?_
  refine wpList_buildTo rfl 263 _ rfl _ rfl #[.nilFunc, .nilFunc, .func (.func 246) #[] #[]] (by kernel_rfl) ?_
  refine wpList_buildTo rfl 264 _ rfl _ rfl meansC (by kernel_rfl) ?_
  refine wpList_store_row rfl 264 _ _ rfl w.heap.size meansC (by kernel_rfl) (by kernel_rfl) 264 (Array.replicate 75 .nilFunc) (heap_alloc_new w _) (by kernel_rfl) (by kernel_rfl) (by kernel_rfl) ?_
  show Code.wp _ _ _ _ _
  refine wp_ret ?_
  have hb : ((w.alloc (.cells (Array.replicate 75 .nilFunc) 264)).setRow w.heap.size meansC).heap[w.heap.size]? = some (.cells meansC 264 (0, 0))  := setRow_heap _ _ _ _ _ _ (heap_alloc_new w _)
  refine bodyPost_ret (results_cell_row (p := 0) (ty := 264) (by kernel_rfl) _ _ w.heap.size 264 meansC (0, 0) (.array 25 263) (by kernel_rfl) hb (by kernel_rfl) rfl (by kernel_rfl)) (by kernel_rfl) ⟨rfl, ?_⟩
  exact ⟨rfl, rfl, rfl, by simp [World.setRow], fun i hi => (setRow_other _ _ _ _ (by omega)).trans (heap_alloc_old w _ hi)⟩
end Go.Proofs.YtkfnedhllfdghaaGreatDoor
end
