import Derived.Test.YtoiibpkfpeceeaaGreatDoorMgAW
import Derived.Deep.Cut
import Derived.Great.BuildSlice
import Derived.Great.Walk

section
namespace Go.Proofs.YtoiibpkfpeceeaaGreatDoor
open Go.RowKit Go.Shelf

/-- the table's cells -/
def meansC : Array Value := #[.nilFunc, .nilFunc, .nilFunc, .nilFunc, .nilFunc, .func (.func 82) #[] #[], .func (.func 83) #[] #[], .nilFunc, .nilFunc, .nilFunc, .func (.func 84) #[] #[], .nilFunc, .nilFunc, .func (.func 85) #[] #[], .nilFunc, .nilFunc, .func (.func 86) #[] #[], .nilFunc, .nilFunc, .func (.func 87) #[] #[], .nilFunc, .nilFunc, .func (.func 88) #[] #[], .nilFunc, .nilFunc, .func (.func 89) #[] #[], .nilFunc, .nilFunc, .func (.func 90) #[] #[], .nilFunc, .nilFunc, .func (.func 91) #[] #[], .nilFunc, .func (.func 92) #[] #[], .nilFunc, .nilFunc, .func (.func 93) #[] #[], .nilFunc, .nilFunc, .func (.func 94) #[] #[], .nilFunc, .nilFunc, .nilFunc, .nilFunc, .func (.func 95) #[] #[], .nilFunc, .nilFunc, .func (.func 96) #[] #[], .nilFunc, .nilFunc, .func (.func 97) #[] #[], .nilFunc, .nilFunc, .func (.func 98) #[] #[], .nilFunc, .nilFunc, .func (.func 99) #[] #[], .nilFunc, .nilFunc, .func (.func 100) #[] #[], .nilFunc, .nilFunc, .func (.func 101) #[] #[], .nilFunc, .nilFunc, .func (.func 102) #[] #[], .nilFunc, .nilFunc, .func (.func 103) #[] #[], .nilFunc, .nilFunc, .func (.func 104) #[] #[], .nilFunc, .nilFunc, .func (.func 105) #[] #[]]
set_option maxRecDepth 20000 in
set_option maxHeartbeats 1000000 in
theorem meanings_any (w : World) : Calls Tryz.prog 49 #[] w fun e w' => e = .returned (.agg meansC) ∧ Below w.heap.size w w' := by
  go_enter Tryz.func49, Tryz.ntmps49
  refine wp_seq (wp_region_list ?_)
  refine Great.wpList_allocTo rfl _ rfl (.pointer (some ⟨w.heap.size, 0, none⟩)) (.cells (Array.replicate 75 .nilFunc) 122) (by kernel_rfl) ?_
  show Code.wp _ _ _ _ _
  refine wp_seq (wp_region_list ?_)
  refine wpList_buildTo rfl 121 _ rfl _ rfl #[.nilFunc, .nilFunc, .func (.func 82) #[] #[]] (by kernel_rfl) ?_
  refine wpList_buildTo rfl 121 _ rfl _ rfl #[.func (.func 83) #[] #[], .nilFunc, .nilFunc] (by kernel_rfl) ?_
  refine wpList_buildTo rfl 121 _ rfl _ rfl #[.nilFunc, .func (.func 84) #[] #[], .nilFunc] (by kernel_rfl) ?_
  refine wpList_buildTo rfl 121 _ rfl _ rfl #[.nilFunc, .func (.func 85) #[] #[], .nilFunc] (by kernel_rfl) ?_
  refine wpList_buildTo rfl 121 _ rfl _ rfl #[.nilFunc, .func (.func 86) #[] #[], .nilFunc] (by kernel_rfl) ?_
  refine wpList_buildTo rfl 121 _ rfl _ rfl #[.nilFunc, .func (.func 87) #[] #[], .nilFunc] (by kernel_rfl) ?_
  refine wpList_buildTo rfl 121 _ rfl _ rfl #[.nilFunc, .func (.func 88) #[] #[], .nilFunc] (by kernel_rfl) ?_
  refine wpList_buildTo rfl 121 _ rfl _ rfl #[.nilFunc, .func (.func 89) #[] #[], .nilFunc] (by kernel_rfl) ?_
  refine wpList_buildTo rfl 121 _ rfl _ rfl #[.nilFunc, .func (.func 90) #[] #[], .nilFunc] (by kernel_rfl) ?_
  refine wpList_buildTo rfl 121 _ rfl _ rfl #[.nilFunc, .func (.func 91) #[] #[], .nilFunc] (by kernel_rfl) ?_
  refine wpList_buildTo rfl 121 _ rfl _ rfl #[.func (.func 92) #[] #[], .nilFunc, .nilFunc] (by kernel_rfl) ?_
  refine wpList_buildTo rfl 121 _ rfl _ rfl #[.func (.func 93) #[] #[], .nilFunc, .nilFunc] (by kernel_rfl) ?_
  refine wpList_buildTo rfl 121 _ rfl _ rfl #[.func (.func 94) #[] #[], .nilFunc, .nilFunc] (by kernel_rfl) ?_
  refine wpList_buildTo rfl 121 _ rfl _ rfl #[.nilFunc, .nilFunc, .func (.func 95) #[] #[]] (by kernel_rfl) ?_
  refine wpList_buildTo rfl 121 _ rfl _ rfl #[.nilFunc, .nilFunc, .func (.func 96) #[] #[]] (by kernel_rfl) ?_
  refine wpList_buildTo rfl 121 _ rfl _ rfl #[.nilFunc, .nilFunc, .func (.func 97) #[] #[]] (by kernel_rfl) ?_
  refine wpList_buildTo rfl 121 _ rfl _ rfl #[.nilFunc, .nilFunc, .func (.func 98) #[] #[]] (by kernel_rfl) ?_
  refine wpList_buildTo rfl 121 _ rfl _ rfl #[.nilFunc, .nilFunc, .func (.func 99) #[] #[]] (by kernel_rfl) ?_
  refine wpList_buildTo rfl 121 _ rfl _ rfl #[.nilFunc, .nilFunc, .func (.func 100) #[] #[]] (by kernel_rfl) ?_
  refine wpList_buildTo rfl 121 _ rfl _ rfl #[.nilFunc, .nilFunc, .func (.func 101) #[] #[]] (by kernel_rfl) ?_
  refine wpList_buildTo rfl 121 _ rfl _ rfl #[.nilFunc, .nilFunc, .func (.func 102) #[] #[]] (by kernel_rfl) ?_
  refine wpList_buildTo rfl 121 _ rfl _ rfl #[.nilFunc, .nilFunc, .func (.func 103) #[] #[]] (by kernel_rfl) ?_
  refine wpList_buildTo rfl 121 _ rfl _ rfl #[.nilFunc, .nilFunc, .func (.func 104) #[] #[]] (by kernel_rfl) ?_
  refine wpList_buildTo rfl 121 _ rfl _ rfl #[.nilFunc, .nilFunc, .func (.func 105) #[] #[]] (by kernel_rfl) ?_
  refine wpList_buildTo rfl 122 _ rfl _ rfl meansC (by kernel_rfl) ?_
  refine wpList_store_row rfl 122 _ _ rfl w.heap.size meansC (by kernel_rfl) (by kernel_rfl) 122 (Array.replicate 75 .nilFunc) (heap_alloc_new w _) (by kernel_rfl) (by kernel_rfl) (by kernel_rfl) ?_
  show Code.wp _ _ _ _ _
  refine wp_ret ?_
  have hb : ((w.alloc (.cells (Array.replicate 75 .nilFunc) 122)).setRow w.heap.size meansC).heap[w.heap.size]? = some (.cells meansC 122 (0, 0))  := setRow_heap _ _ _ _ _ _ (heap_alloc_new w _)
  refine bodyPost_ret (results_cell_row (p := 0) (ty := 122) (by kernel_rfl) _ _ w.heap.size 122 meansC (0, 0) (.array 25 121) (by kernel_rfl) hb (by kernel_rfl) rfl (by kernel_rfl)) (by kernel_rfl) ⟨rfl, ?_⟩
  exact ⟨rfl, rfl, rfl, by simp [World.setRow], fun i hi => (setRow_other _ _ _ _ (by omega)).trans (heap_alloc_old w _ hi)⟩
end Go.Proofs.YtoiibpkfpeceeaaGreatDoor
end
