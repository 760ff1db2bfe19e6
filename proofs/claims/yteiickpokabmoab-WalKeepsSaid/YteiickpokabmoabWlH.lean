import Derived.Test.YteiickpokabmoabWlG
namespace Go.Proofs.Yteiickpokabmoab
open Go.RowKit Go.Shelf
open Wl (Hd WS Log)

theorem box_al {w : World} {X : Nat} {cs : Array Value} {t : TypeId} (h : w.heap[X]? = some (.cells cs t (0, 0))) (o : Obj) : (w.alloc o).heap[X]? = some (.cells cs t (0, 0)) := (Below.heap_alloc _ _ _ (lt_of_block h)).trans h
theorem box_bl {w w' : World} {X : Nat} {cs : Array Value} {t : TypeId} (h : w.heap[X]? = some (.cells cs t (0, 0))) (hb : Below w.heap.size w w') : w'.heap[X]? = some (.cells cs t (0, 0)) := (hb.block _ (lt_of_block h)).trans h
theorem box_cells {w : World} {X : Nat} {a b c d : Value} {t : TypeId} (h : w.heap[X]? = some (.cells #[a, b, c, d] t (0, 0))) : w.cell? ⟨X, 0, none⟩ = some a ∧ w.cell? ⟨X, 1, none⟩ = some b ∧ w.cell? ⟨X, 2, none⟩ = some c ∧ w.cell? ⟨X, 3, none⟩ = some d := by
  refine ⟨?_, ?_, ?_, ?_⟩ <;> (unfold World.cell?; rw [h]; rfl)
set_option maxHeartbeats 2000000 in
set_option maxRecDepth 8000 in
theorem writeHead_any {base : Nat} {w : World} {b : Nat} {F : Nat → Prop} {d : D.DS} (h : D.Dk base w b F d) (hd : Hd) (h0 : hd.num < 18446744073709551616) (h1 : hd.half < 256) (h2 : hd.sn < 4294967296) (h3 : hd.lg < 4294967296) (hR : (d.R.length + 1) * 24 ≤ 140737488355328) :
    Calls Try.prog 30 #[.pointer (some ⟨b, 0, none⟩), .agg (hdC hd)] w fun e w' => e = .returned (.int .i64 (d.write ((hd.num % 2 : Nat) : Int) (Wl.headB hd)).1) ∧ ∃ F', D.Dk base w' b F' (d.write ((hd.num % 2 : Nat) : Int) (Wl.headB hd)).2 ∧ D.Mv F F' w w' := by
  have HD := hide h
  have hFX : ¬ F w.heap.size := fun k => absurd (h.ftlt _ k).2 (Nat.lt_irrefl _)
  have HBy := hide (fun W => bytes_any hd h0 h1 h2 h3 W)
  obtain ⟨num, half, sn, lg⟩ := hd
  clear h h0 h1 h2 h3
  have hst : (w.alloc (.cells (hdC ⟨num, half, sn, lg⟩) 54)).heap[w.heap.size]? = some (.cells #[.int .u64 (num : Int), .int .u8 (half : Int), .int .i64 (sn : Int), .int .i64 (lg : Int)] 54 (0, 0)) := heap_alloc_new w _
  have HB0 : Hid (Below w.heap.size w (w.alloc (.cells (hdC ⟨num, half, sn, lg⟩) 54)).drew) := hide ((below_alloc w _).trans ⟨rfl, rfl, rfl, Nat.le_refl _, fun _ _ => rfl⟩)
  simp only [hdC] at *
  go_enter Try.func30, Try.ntmps30
  go_wp2_with fail
  refine wp_region_held_drew (S := fun w' => w'.heap[w.heap.size]? = some (.cells #[.int .u64 (num : Int), .int .u8 (half : Int), .int .i64 (sn : Int), .int .i64 (lg : Int)] 54 (0, 0))) (by kernel_rfl) (hst) (fun hHeld => ?_)
  refine wpAnyH_take (i := 0) (v := .pointer (some ⟨b, 0, none⟩)) rfl (by kernel_rfl) (by kernel_rfl) (by kernel_rfl) (fun _ _ _ h => h) (Or.inl ⟨by rfl, fun w1 hSw => by clear hHeld; obtain ⟨c0, c1, c2, c3⟩ := box_cells hSw; go_simp⟩) hHeld ?_
  simp only [Act.put, List.setIfInBounds_toArray]
  refine wpAnyH_take (i := 1) (v := .agg #[.int .u64 (num : Int), .int .u8 (half : Int), .int .i64 (sn : Int), .int .i64 (lg : Int)]) rfl (by kernel_rfl) (by kernel_rfl) (by kernel_rfl) (fun _ _ _ h => h) (Or.inl ⟨by rfl, fun w1 hSw => by clear hHeld; obtain ⟨c0, c1, c2, c3⟩ := box_cells hSw; go_simp⟩) hHeld ?_
  try simp only [Act.put]
  refine wpAnyH_take (i := 3) (v := .agg #[.int .u64 (num : Int), .int .u8 (half : Int), .int .i64 (sn : Int), .int .i64 (lg : Int)]) rfl (by kernel_rfl) (by kernel_rfl) (by kernel_rfl) (fun _ _ _ h => h) (Or.inl ⟨by rfl, fun w1 hSw => by clear hHeld; obtain ⟨c0, c1, c2, c3⟩ := box_cells hSw; go_simp⟩) hHeld ?_
  try simp only [Act.put]
  refine wpAnyH_ready (rs := [2]) (by kernel_rfl) (by simp) ?_
  refine AllReadyH.cons rfl (fun K hK => ?_) AllReadyH.nil
  go_simp
  refine (sector_any ⟨num, half, sn, lg⟩ _).mono ?_
  rintro e w0a ⟨rfl, rfl⟩
  have HB1 := hide (HB0.out.alloc (HB0.out.size) (.cells (hdC ⟨num, half, sn, lg⟩) 54))
  refine hK.out _ _ (box_al hHeld _) (fun hHeld => ?_)
  clear hK K
  refine wpAnyH_ready (rs := [4]) (by kernel_rfl) (by simp) ?_
  refine AllReadyH.cons rfl (fun K hK => ?_) AllReadyH.nil
  go_simp
  refine (HBy.out _).mono ?_
  rintro e w1a ⟨rfl, hb1⟩
  have HB2 := hide (HB1.out.trans (hb1.mono HB1.out.size))
  have hs1 := box_bl hHeld hb1
  clear hb1
  refine hK.out _ _ (hs1) (fun hHeld => ?_)
  clear hK K
  refine wpAnyH_ready (rs := [5]) (by kernel_rfl) (by simp) ?_
  refine AllReadyH.cons rfl (fun K hK => ?_) AllReadyH.nil
  go_simp
  refine (D.write_any (HD.out.below HB2.out) _ _ hR).mono ?_
  rintro e w9 ⟨rfl, F', hD', hM'⟩
  have HQ := hide hD'
  have HQM := hide ((D.Mv.of_below (F := F) HB2.out).trans hM')
  have hs2 := (hM'.block _ (lt_of_block hHeld) hFX).trans hHeld
  clear hD' hM'
  refine hK.out _ _ (hs2) (fun hHeld => ?_)
  clear hK K
  refine wpAnyH_ready (rs := [6]) (by kernel_rfl) (by simp) ?_
  refine AllReadyH.cons rfl (fun K hK => ?_) AllReadyH.nil
  go_simp
  refine hK.out _ _ (hHeld) (fun hHeld => ?_)
  clear hK K
  refine wpAnyH_done (by kernel_rfl) ?_ _
  clear hHeld
  go_wp2_with fail
  go_ret
  exact ⟨rfl, F', HQ.out, HQM.out⟩
end Go.Proofs.Yteiickpokabmoab
