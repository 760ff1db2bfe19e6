import Derived.Test.YthjngodkpldpfaaGreatDoorMgAN
import Derived.Deep.Cut
import Derived.Great.BuildSlice
import Derived.Great.Walk

section
namespace Go.Proofs.YthjngodkpldpfaaGreatDoor
open Go.RowKit Go.Shelf

/-- the table's cells -/
def meansC : Array Value := #[.nilFunc, .nilFunc, .nilFunc, .nilFunc, .nilFunc, .func (.func 68) #[] #[], .func (.func 69) #[] #[], .nilFunc, .nilFunc, .nilFunc, .func (.func 70) #[] #[], .nilFunc, .nilFunc, .func (.func 71) #[] #[], .nilFunc, .nilFunc, .func (.func 72) #[] #[], .nilFunc, .nilFunc, .func (.func 73) #[] #[], .nilFunc, .nilFunc, .func (.func 74) #[] #[], .nilFunc, .nilFunc, .func (.func 75) #[] #[], .nilFunc, .nilFunc, .func (.func 76) #[] #[], .nilFunc, .nilFunc, .func (.func 77) #[] #[], .nilFunc, .func (.func 78) #[] #[], .nilFunc, .nilFunc, .func (.func 79) #[] #[], .nilFunc, .nilFunc, .func (.func 80) #[] #[], .nilFunc, .nilFunc, .nilFunc, .nilFunc, .func (.func 81) #[] #[], .nilFunc, .nilFunc, .func (.func 82) #[] #[], .nilFunc, .nilFunc, .func (.func 83) #[] #[], .nilFunc, .nilFunc, .func (.func 84) #[] #[], .nilFunc, .nilFunc, .func (.func 85) #[] #[], .nilFunc, .nilFunc, .func (.func 86) #[] #[], .nilFunc, .nilFunc, .func (.func 87) #[] #[], .nilFunc, .nilFunc, .func (.func 88) #[] #[], .nilFunc, .nilFunc, .func (.func 89) #[] #[], .nilFunc, .nilFunc, .func (.func 90) #[] #[], .nilFunc, .nilFunc, .func (.func 91) #[] #[]]
set_option maxRecDepth 20000 in
set_option maxHeartbeats 1000000 in
theorem meanings_any (w : World) : Calls Tryz.prog 44 #[] w fun e w' => e = .returned (.agg meansC) ∧ Below w.heap.size w w' := by
  go_enter Tryz.func44, Tryz.ntmps44
  refine wp_seq (wp_region_list ?_)
  refine Great.wpList_allocTo rfl _ rfl (.pointer (some ⟨w.heap.size, 0, none⟩)) (.cells (Array.replicate 75 .nilFunc) 100) (by kernel_rfl) ?_
  show Code.wp _ _ _ _ _
  refine wp_seq (wp_region_list ?_)
  refine wpList_buildTo rfl 99 _ rfl _ rfl #[.nilFunc, .nilFunc, .func (.func 68) #[] #[]] (by kernel_rfl) ?_
  refine wpList_buildTo rfl 99 _ rfl _ rfl #[.func (.func 69) #[] #[], .nilFunc, .nilFunc] (by kernel_rfl) ?_
  refine wpList_buildTo rfl 99 _ rfl _ rfl #[.nilFunc, .func (.func 70) #[] #[], .nilFunc] (by kernel_rfl) ?_
  refine wpList_buildTo rfl 99 _ rfl _ rfl #[.nilFunc, .func (.func 71) #[] #[], .nilFunc] (by kernel_rfl) ?_
  refine wpList_buildTo rfl 99 _ rfl _ rfl #[.nilFunc, .func (.func 72) #[] #[], .nilFunc] (by kernel_rfl) ?_
  refine wpList_buildTo rfl 99 _ rfl _ rfl #[.nilFunc, .func (.func 73) #[] #[], .nilFunc] (by kernel_rfl) ?_
  refine wpList_buildTo rfl 99 _ rfl _ rfl #[.nilFunc, .func (.func 74) #[] #[], .nilFunc] (by kernel_rfl) ?_
  refine wpList_buildTo rfl 99 _ rfl _ rfl #[.nilFunc, .func (.func 75) #[] #[], .nilFunc] (by kernel_rfl) ?_
  refine wpList_buildTo rfl 99 _ rfl _ rfl #[.nilFunc, .func (.func 76) #[] #[], .nilFunc] (by kernel_rfl) ?_
  refine wpList_buildTo rfl 99 _ rfl _ rfl #[.nilFunc, .func (.func 77) #[] #[], .nilFunc] (by kernel_rfl) ?_
  refine wpList_buildTo rfl 99 _ rfl _ rfl #[.func (.func 78) #[] #[], .nilFunc, .nilFunc] (by kernel_rfl) ?_
  refine wpList_buildTo rfl 99 _ rfl _ rfl #[.func (.func 79) #[] #[], .nilFunc, .nilFunc] (by kernel_rfl) ?_
  refine wpList_buildTo rfl 99 _ rfl _ rfl #[.func (.func 80) #[] #[], .nilFunc, .nilFunc] (by kernel_rfl) ?_
  refine wpList_buildTo rfl 99 _ rfl _ rfl #[.nilFunc, .nilFunc, .func (.func 81) #[] #[]] (by kernel_rfl) ?_
  refine wpList_buildTo rfl 99 _ rfl _ rfl #[.nilFunc, .nilFunc, .func (.func 82) #[] #[]] (by kernel_rfl) ?_
  refine wpList_buildTo rfl 99 _ rfl _ rfl #[.nilFunc, .nilFunc, .func (.func 83) #[] #[]] (by kernel_rfl) ?_
  refine wpList_buildTo rfl 99 _ rfl _ rfl #[.nilFunc, .nilFunc, .func (.func 84) #[] #[]] (by kernel_rfl) ?_
  refine wpList_buildTo rfl 99 _ rfl _ rfl #[.nilFunc, .nilFunc, .func (.func 85) #[] #[]] (by kernel_rfl) ?_
  refine wpList_buildTo rfl 99 _ rfl _ rfl #[.nilFunc, .nilFunc, .func (.func 86) #[] #[]] (by kernel_rfl) ?_
  refine wpList_buildTo rfl 99 _ rfl _ rfl #[.nilFunc, .nilFunc, .func (.func 87) #[] #[]] (by kernel_rfl) ?_
  refine wpList_buildTo rfl 99 _ rfl _ rfl #[.nilFunc, .nilFunc, .func (.func 88) #[] #[]] (by kernel_rfl) ?_
  refine wpList_buildTo rfl 99 _ rfl _ rfl #[.nilFunc, .nilFunc, .func (.func 89) #[] #[]] (by kernel_rfl) ?_
  refine wpList_buildTo rfl 99 _ rfl _ rfl #[.nilFunc, .nilFunc, .func (.func 90) #[] #[]] (by kernel_rfl) ?_
  refine wpList_buildTo rfl 99 _ rfl _ rfl #[.nilFunc, .nilFunc, .func (.func 91) #[] #[]] (by kernel_rfl) ?_
  refine wpList_buildTo rfl 100 _ rfl _ rfl meansC (by kernel_rfl) ?_
  refine wpList_store_row rfl 100 _ _ rfl w.heap.size meansC (by kernel_rfl) (by kernel_rfl) 100 (Array.replicate 75 .nilFunc) (heap_alloc_new w _) (by kernel_rfl) (by kernel_rfl) (by kernel_rfl) ?_
  show Code.wp _ _ _ _ _
  refine wp_ret ?_
  have hb : ((w.alloc (.cells (Array.replicate 75 .nilFunc) 100)).setRow w.heap.size meansC).heap[w.heap.size]? = some (.cells meansC 100 (0, 0))  := setRow_heap _ _ _ _ _ _ (heap_alloc_new w _)
  refine bodyPost_ret (results_cell_row (p := 0) (ty := 100) (by kernel_rfl) _ _ w.heap.size 100 meansC (0, 0) (.array 25 99) (by kernel_rfl) hb (by kernel_rfl) rfl (by kernel_rfl)) (by kernel_rfl) ⟨rfl, ?_⟩
  exact ⟨rfl, rfl, rfl, by simp [World.setRow], fun i hi => (setRow_other _ _ _ _ (by omega)).trans (heap_alloc_old w _ hi)⟩
end Go.Proofs.YthjngodkpldpfaaGreatDoor
end
