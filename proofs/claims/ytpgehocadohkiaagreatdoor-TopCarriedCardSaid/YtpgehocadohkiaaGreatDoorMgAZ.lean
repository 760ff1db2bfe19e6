import Derived.Test.YtpgehocadohkiaaGreatDoorMgAY
import Derived.Deep.Cut
import Derived.Great.BuildSlice
import Derived.Great.Walk

section
namespace Go.Proofs.YtpgehocadohkiaaGreatDoor
open Go.RowKit Go.Shelf

/-- the table's cells -/
def meansC : Array Value := #[.nilFunc, .nilFunc, .nilFunc, .nilFunc, .nilFunc, .func (.func 124) #[] #[], .func (.func 125) #[] #[], .nilFunc, .nilFunc, .nilFunc, .func (.func 126) #[] #[], .nilFunc, .nilFunc, .func (.func 127) #[] #[], .nilFunc, .nilFunc, .func (.func 128) #[] #[], .nilFunc, .nilFunc, .func (.func 129) #[] #[], .nilFunc, .nilFunc, .func (.func 130) #[] #[], .nilFunc, .nilFunc, .func (.func 131) #[] #[], .nilFunc, .nilFunc, .func (.func 132) #[] #[], .nilFunc, .nilFunc, .func (.func 133) #[] #[], .nilFunc, .func (.func 134) #[] #[], .nilFunc, .nilFunc, .func (.func 135) #[] #[], .nilFunc, .nilFunc, .func (.func 136) #[] #[], .nilFunc, .nilFunc, .nilFunc, .nilFunc, .func (.func 137) #[] #[], .nilFunc, .nilFunc, .func (.func 138) #[] #[], .nilFunc, .nilFunc, .func (.func 139) #[] #[], .nilFunc, .nilFunc, .func (.func 140) #[] #[], .nilFunc, .nilFunc, .func (.func 141) #[] #[], .nilFunc, .nilFunc, .func (.func 142) #[] #[], .nilFunc, .nilFunc, .func (.func 143) #[] #[], .nilFunc, .nilFunc, .func (.func 144) #[] #[], .nilFunc, .nilFunc, .func (.func 145) #[] #[], .nilFunc, .nilFunc, .func (.func 146) #[] #[], .nilFunc, .nilFunc, .func (.func 147) #[] #[]]
set_option maxRecDepth 20000 in
set_option maxHeartbeats 1000000 in
theorem meanings_any (w : World) : Calls Tryz.prog 90 #[] w fun e w' => e = .returned (.agg meansC) ∧ Below w.heap.size w w' := by
  go_enter Tryz.func90, Tryz.ntmps90
  refine wp_seq (wp_region_list ?_)
  refine Great.wpList_allocTo rfl _ rfl (.pointer (some ⟨w.heap.size, 0, none⟩)) (.cells (Array.replicate 75 .nilFunc) 162) (by kernel_rfl) ?_
  show Code.wp _ _ _ _ _
  refine wp_seq (wp_region_list ?_)
  refine wpList_buildTo rfl 161 _ rfl _ rfl #[.nilFunc, .nilFunc, .func (.func 124) #[] #[]] (by kernel_rfl) ?_
  refine wpList_buildTo rfl 161 _ rfl _ rfl #[.func (.func 125) #[] #[], .nilFunc, .nilFunc] (by kernel_rfl) ?_
  refine wpList_buildTo rfl 161 _ rfl _ rfl #[.nilFunc, .func (.func 126) #[] #[], .nilFunc] (by kernel_rfl) ?_
  refine wpList_buildTo rfl 161 _ rfl _ rfl #[.nilFunc, .func (.func 127) #[] #[], .nilFunc] (by kernel_rfl) ?_
  refine wpList_buildTo rfl 161 _ rfl _ rfl #[.nilFunc, .func (.func 128) #[] #[], .nilFunc] (by kernel_rfl) ?_
  refine wpList_buildTo rfl 161 _ rfl _ rfl #[.nilFunc, .func (.func 129) #[] #[], .nilFunc] (by kernel_rfl) ?_
  refine wpList_buildTo rfl 161 _ rfl _ rfl #[.nilFunc, .func (.func 130) #[] #[], .nilFunc] (by kernel_rfl) ?_
  refine wpList_buildTo rfl 161 _ rfl _ rfl #[.nilFunc, .func (.func 131) #[] #[], .nilFunc] (by kernel_rfl) ?_
  refine wpList_buildTo rfl 161 _ rfl _ rfl #[.nilFunc, .func (.func 132) #[] #[], .nilFunc] (by kernel_rfl) ?_
  refine wpList_buildTo rfl 161 _ rfl _ rfl #[.nilFunc, .func (.func 133) #[] #[], .nilFunc] (by kernel_rfl) ?_
  refine wpList_buildTo rfl 161 _ rfl _ rfl #[.func (.func 134) #[] #[], .nilFunc, .nilFunc] (by kernel_rfl) ?_
  refine wpList_buildTo rfl 161 _ rfl _ rfl #[.func (.func 135) #[] #[], .nilFunc, .nilFunc] (by kernel_rfl) ?_
  refine wpList_buildTo rfl 161 _ rfl _ rfl #[.func (.func 136) #[] #[], .nilFunc, .nilFunc] (by kernel_rfl) ?_
  refine wpList_buildTo rfl 161 _ rfl _ rfl #[.nilFunc, .nilFunc, .func (.func 137) #[] #[]] (by kernel_rfl) ?_
  refine wpList_buildTo rfl 161 _ rfl _ rfl #[.nilFunc, .nilFunc, .func (.func 138) #[] #[]] (by kernel_rfl) ?_
  refine wpList_buildTo rfl 161 _ rfl _ rfl #[.nilFunc, .nilFunc, .func (.func 139) #[] #[]] (by kernel_rfl) ?_
  refine wpList_buildTo rfl 161 _ rfl _ rfl #[.nilFunc, .nilFunc, .func (.func 140) #[] #[]] (by kernel_rfl) ?_
  refine wpList_buildTo rfl 161 _ rfl _ rfl #[.nilFunc, .nilFunc, .func (.func 141) #[] #[]] (by kernel_rfl) ?_
  refine wpList_buildTo rfl 161 _ rfl _ rfl #[.nilFunc, .nilFunc, .func (.func 142) #[] #[]] (by kernel_rfl) ?_
  refine wpList_buildTo rfl 161 _ rfl _ rfl #[.nilFunc, .nilFunc, .func (.func 143) #[] #[]] (by kernel_rfl) ?_
  refine wpList_buildTo rfl 161 _ rfl _ rfl #[.nilFunc, .nilFunc, .func (.func 144) #[] #[]] (by kernel_rfl) ?_
  refine wpList_buildTo rfl 161 _ rfl _ rfl #[.nilFunc, .nilFunc, .func (.func 145) #[] #[]] (by kernel_rfl) ?_
  refine wpList_buildTo rfl 161 _ rfl _ rfl #[.nilFunc, .nilFunc, .func (.func 146) #[] #[]] (by kernel_rfl) ?_
  refine wpList_buildTo rfl 161 _ rfl _ rfl #[.nilFunc, .nilFunc, .func (.func 147) #[] #[]] (by kernel_rfl) ?_
  refine wpList_buildTo rfl 162 _ rfl _ rfl meansC (by kernel_rfl) ?_
  refine wpList_store_row rfl 162 _ _ rfl w.heap.size meansC (by kernel_rfl) (by kernel_rfl) 162 (Array.replicate 75 .nilFunc) (heap_alloc_new w _) (by kernel_rfl) (by kernel_rfl) (by kernel_rfl) ?_
  show Code.wp _ _ _ _ _
  refine wp_ret ?_
  have hb : ((w.alloc (.cells (Array.replicate 75 .nilFunc) 162)).setRow w.heap.size meansC).heap[w.heap.size]? = some (.cells meansC 162 (0, 0))  := setRow_heap _ _ _ _ _ _ (heap_alloc_new w _)
  refine bodyPost_ret (results_cell_row (p := 0) (ty := 162) (by kernel_rfl) _ _ w.heap.size 162 meansC (0, 0) (.array 25 161) (by kernel_rfl) hb (by kernel_rfl) rfl (by kernel_rfl)) (by kernel_rfl) ⟨rfl, ?_⟩
  exact ⟨rfl, rfl, rfl, by simp [World.setRow], fun i hi => (setRow_other _ _ _ _ (by omega)).trans (heap_alloc_old w _ hi)⟩
end Go.Proofs.YtpgehocadohkiaaGreatDoor
end
