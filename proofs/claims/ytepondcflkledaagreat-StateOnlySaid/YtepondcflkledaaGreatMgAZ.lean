import Derived.Test.YtepondcflkledaaGreatMgAW
import Derived.Test.YtepondcflkledaaGreatMgAX
import Derived.Test.YtepondcflkledaaGreatMgAY
import Derived.Deep.RegionWith

section
namespace Go.Proofs.YtepondcflkledaaGreat.S
set_option maxRecDepth 20000
open Go.RowKit
open Rc (Ch)
open Q (Rr rr0 Qm Ft Mv)

theorem results_c0 {fn : Func} {p : Tmp} {ty : TypeId} (h : fn.results = #[.cell p ty]) (tmps : Array Value) (P : Program) (w : World) :
    (results fn tmps).run P w = ((asAddr (tmps.getD p undef)).run P w).andThen fun a w₁ => (loadVar ty a).run P w₁ := by
  simp only [results, h]
  simp [Sem.run_bind, Result.andThen]
set_option maxHeartbeats 1000000 in
theorem doings_any (w : World) : Calls Tryz.prog 65 #[] w fun e w' => e = .returned (.agg #[.nilFunc, .func (.func 96) #[] #[], .func (.func 97) #[] #[], .func (.func 98) #[] #[], .func (.func 99) #[] #[], .func (.func 100) #[] #[], .func (.func 101) #[] #[]]) ∧ Below w.heap.size w w' := by
  go_enter Tryz.func65, Tryz.ntmps65
  go_wp2
  refine bodyPost_ret (by rw [results_c0 (fn := Tryz.f65) rfl]; go_simp; rfl) rfl ?_
  exact ⟨rfl, below_alloc _ _⟩
theorem TP.r {O : Nat → Prop} {base : Nat} {m : Int} {s : Sx} {c : Ch} {kb qb : Nat} {w w' : World} {e : Ending} (h : TP O base m s c kb qb w e w') : ∃ r : Bool, e = .returned (.bool r) ∧ TP O base m s c kb qb w (.returned (.bool r)) w' := by
  cases h with
  | no h1 h2 h3 => exact ⟨false, h2, .no h1 rfl h3⟩
  | yes s' v' T' h1 h2 h3 h4 => exact ⟨true, h2, .yes s' v' T' h1 rfl h3 h4⟩
theorem TP.trans {O : Nat → Prop} {base : Nat} {m : Int} {s : Sx} {c : Ch} {kb qb : Nat} {w w1 w' : World} {e : Ending} (h : TP O base m s c kb qb w1 e w') (hb : Below base w w1) : TP O base m s c kb qb w e w' := by
  cases h with
  | no h1 h2 h3 => exact .no h1 h2 (hb.trans h3)
  | yes s' v' T' h1 h2 h3 h4 => exact .yes s' v' T' h1 h2 h3 (hb.trans h4)
section
variable {O : Nat → Prop} {base : Nat} {w w0 : World} {kb qb : Nat} {v : Value} {T : Nat → Value} {m : Int} {s : Sx} {c : Ch} {t : Value}
set_option maxHeartbeats 4000000 in
set_option maxRecDepth 20000 in
theorem take_80 (h : Kp O base w kb qb v T m s) (_ : Wf m s) (_ : ∀ g, base ≤ g → O g) (hT : Tx w0 t c.tx) (hB0 : Below base w0 w) (hb0 : w0.heap.size ≤ base) (hl : c.tx.length ≤ 140737488351232) (hc : Rc.check c = 80) :
    Calls Tryz.prog 35 #[.pointer (some ⟨kb, 0, none⟩), .agg (chC c t)] w (TP O base m s c kb qb w) := by
  obtain ⟨q, cq, rfl, -, -⟩ := tx_src hT
  have HO : Hid (one m s c = none) := hide (by unfold one; rw [if_pos (by rw [hc]; decide)])
  have HCk : Hid (∀ V, Below base w V → Calls Tryz.prog 64 #[.agg (chC c (.slice q c.tx.length cq))] V fun e w' => e = .returned (.int .i64 80) ∧ Below V.heap.size V w') := hide fun V hV => by
    have := check_any c (.slice q c.tx.length cq) V (hT.below (hB0.trans hV) hb0) hl
    rw [hc] at this
    exact this
  have hlt := h.lt
  have hlow := h.low
  have hHK := h.below (below_alloc w (.cells (chC c (.slice q c.tx.length cq)) 78))
  have hHB : Below base w (w.alloc (.cells (chC c (.slice q c.tx.length cq)) 78)) := (Below.refl _ w).alloc (by omega) _
  have hHN : (w.alloc (.cells (chC c (.slice q c.tx.length cq)) 78)).heap[w.heap.size]? = some (.cells (chC c (.slice q c.tx.length cq)) 78 (0, 0)) := heap_alloc_new w _
  have hsz := World.size_alloc w (.cells (chC c (.slice q c.tx.length cq)) 78)
  generalize c.tx.length = n at *
  simp only [chC] at hHK hHB hHN hsz HCk 
  have HK := hide hHK
  have HB := hide hHB
  have HN := hide hHN
  have HCe : Hid (∀ V : World, V.heap[w.heap.size]? = some (.cells #[.int .i64 c.k, .int .i64 c.n, .int .i64 c.jo, .int .i64 c.ba, .int .i64 c.sl, .int .i64 c.li, .int .i64 c.rc, .int .u64 (c.rb : Int), .string c.pr, .slice q n cq] 78 (0, 0)) → V.cell? ⟨w.heap.size, 0, none⟩ = some (.int .i64 c.k) ∧ V.cell? ⟨w.heap.size, 1, none⟩ = some (.int .i64 c.n) ∧ V.cell? ⟨w.heap.size, 2, none⟩ = some (.int .i64 c.jo) ∧ V.cell? ⟨w.heap.size, 3, none⟩ = some (.int .i64 c.ba) ∧ V.cell? ⟨w.heap.size, 4, none⟩ = some (.int .i64 c.sl) ∧ V.cell? ⟨w.heap.size, 5, none⟩ = some (.int .i64 c.li) ∧ V.cell? ⟨w.heap.size, 6, none⟩ = some (.int .i64 c.rc) ∧ V.cell? ⟨w.heap.size, 7, none⟩ = some (.int .u64 (c.rb : Int)) ∧ V.cell? ⟨w.heap.size, 8, none⟩ = some (.string c.pr) ∧ V.cell? ⟨w.heap.size, 9, none⟩ = some (.slice q n cq)) := hide fun V h1 => by simp [World.cell?, h1]
  obtain ⟨a0, a1, a2, a3, a4, a5, a6, a7, a8, a9⟩ := HCe.out _ HN.out
  clear h hT hB0 hb0 hl hHK hHB hHN hc
  go_enter Tryz.func35, Tryz.ntmps35
  simp only [chC]
  go_upto_region 1 with fail
  generalize w.alloc _ = W at *
  refine wp_region_held_drew (S := fun w' => w'.heap[w.heap.size]? = some (.cells #[.int .i64 c.k, .int .i64 c.n, .int .i64 c.jo, .int .i64 c.ba, .int .i64 c.sl, .int .i64 c.li, .int .i64 c.rc, .int .u64 (c.rb : Int), .string c.pr, .slice q n cq] 78 (0, 0))) (by kernel_rfl) (HN.out) (fun hHeld => ?_)
  refine wpAnyH_take (i := 0) (v := .agg #[.int .i64 c.k, .int .i64 c.n, .int .i64 c.jo, .int .i64 c.ba, .int .i64 c.sl, .int .i64 c.li, .int .i64 c.rc, .int .u64 (c.rb : Int), .string c.pr, .slice q n cq]) rfl (by kernel_rfl) (by kernel_rfl) (by kernel_rfl) (fun _ _ _ h => h) (Or.inl ⟨by kernel_rfl, fun w1 hSw => by clear hHeld; obtain ⟨b0, b1, b2, b3, b4, b5, b6, b7, b8, b9⟩ := HCe.out _ hSw; go_simp⟩) hHeld ?_
  try simp only [Act.put]
  try simp only [List.getElem_toArray]
  try simp only [List.getElem_cons_succ]
  try simp only [List.getElem_cons_zero]
  try simp only [List.setIfInBounds_toArray]
  try simp only [List.set_cons_succ, List.set_cons_zero]
  refine wpAnyH_ready (rs := [1]) (by kernel_rfl) (by simp) ?_
  refine AllReadyH.cons rfl (fun K hK => ?_) AllReadyH.nil
  go_simp
  refine (HCk.out _ HB.out.drew).mono ?_
  rintro e V1 ⟨rfl, hb1⟩
  have HB1 := hide (HB.out.drew.trans (hb1.mono (Nat.le_trans hlow (Nat.le_of_lt HK.out.lt))))
  have HN1 := hide ((hb1.block w.heap.size (lt_of_block HN.out)).trans HN.out)
  clear hb1
  refine hK.out _ _ (HN1.out) (fun hHeld => ?_)
  clear hK K
  try simp only [Act.put]
  try simp only [List.getElem_toArray]
  try simp only [List.getElem_cons_succ]
  try simp only [List.getElem_cons_zero]
  try simp only [List.setIfInBounds_toArray]
  try simp only [List.set_cons_succ, List.set_cons_zero]
  refine wpAnyH_take (i := 2) (v := .bool false) rfl (by kernel_rfl) (by kernel_rfl) (by kernel_rfl) (fun _ _ _ h => h) (Or.inl ⟨by kernel_rfl, fun w1 hSw => by clear hHeld; obtain ⟨b0, b1, b2, b3, b4, b5, b6, b7, b8, b9⟩ := HCe.out _ hSw; go_simp⟩) hHeld ?_
  try simp only [Act.put]
  try simp only [List.getElem_toArray]
  try simp only [List.getElem_cons_succ]
  try simp only [List.getElem_cons_zero]
  try simp only [List.setIfInBounds_toArray]
  try simp only [List.set_cons_succ, List.set_cons_zero]
  refine wpAnyH_take (i := 3) (v := .bool false) rfl (by kernel_rfl) (by kernel_rfl) (by kernel_rfl) (fun _ _ _ h => h) (Or.inl ⟨by kernel_rfl, fun w1 hSw => by clear hHeld; obtain ⟨b0, b1, b2, b3, b4, b5, b6, b7, b8, b9⟩ := HCe.out _ hSw; go_simp⟩) hHeld ?_
  try simp only [Act.put]
  try simp only [List.getElem_toArray]
  try simp only [List.getElem_cons_succ]
  try simp only [List.getElem_cons_zero]
  try simp only [List.setIfInBounds_toArray]
  try simp only [List.set_cons_succ, List.set_cons_zero]
  refine wpAnyH_take (i := 4) (v := undef) rfl (by kernel_rfl) (by kernel_rfl) (by kernel_rfl) (fun _ _ _ h => h) (Or.inr ⟨by kernel_rfl, rfl⟩) hHeld ?_
  try simp only [Act.put]
  try simp only [List.getElem_toArray]
  try simp only [List.getElem_cons_succ]
  try simp only [List.getElem_cons_zero]
  try simp only [List.setIfInBounds_toArray]
  try simp only [List.set_cons_succ, List.set_cons_zero]
  refine wpAnyH_take (i := 5) (v := undef) rfl (by kernel_rfl) (by kernel_rfl) (by kernel_rfl) (fun _ _ _ h => h) (Or.inr ⟨by kernel_rfl, rfl⟩) hHeld ?_
  try simp only [Act.put]
  try simp only [List.getElem_toArray]
  try simp only [List.getElem_cons_succ]
  try simp only [List.getElem_cons_zero]
  try simp only [List.setIfInBounds_toArray]
  try simp only [List.set_cons_succ, List.set_cons_zero]
  refine wpAnyH_take (i := 6) (v := undef) rfl (by kernel_rfl) (by kernel_rfl) (by kernel_rfl) (fun _ _ _ h => h) (Or.inr ⟨by kernel_rfl, rfl⟩) hHeld ?_
  try simp only [Act.put]
  try simp only [List.getElem_toArray]
  try simp only [List.getElem_cons_succ]
  try simp only [List.getElem_cons_zero]
  try simp only [List.setIfInBounds_toArray]
  try simp only [List.set_cons_succ, List.set_cons_zero]
  refine wpAnyH_take (i := 7) (v := undef) rfl (by kernel_rfl) (by kernel_rfl) (by kernel_rfl) (fun _ _ _ h => h) (Or.inr ⟨by kernel_rfl, rfl⟩) hHeld ?_
  try simp only [Act.put]
  try simp only [List.getElem_toArray]
  try simp only [List.getElem_cons_succ]
  try simp only [List.getElem_cons_zero]
  try simp only [List.setIfInBounds_toArray]
  try simp only [List.set_cons_succ, List.set_cons_zero]
  refine wpAnyH_take (i := 8) (v := undef) rfl (by kernel_rfl) (by kernel_rfl) (by kernel_rfl) (fun _ _ _ h => h) (Or.inr ⟨by kernel_rfl, rfl⟩) hHeld ?_
  try simp only [Act.put]
  try simp only [List.getElem_toArray]
  try simp only [List.getElem_cons_succ]
  try simp only [List.getElem_cons_zero]
  try simp only [List.setIfInBounds_toArray]
  try simp only [List.set_cons_succ, List.set_cons_zero]
  refine wpAnyH_take (i := 9) (v := undef) rfl (by kernel_rfl) (by kernel_rfl) (by kernel_rfl) (fun _ _ _ h => h) (Or.inr ⟨by kernel_rfl, rfl⟩) hHeld ?_
  try simp only [Act.put]
  try simp only [List.getElem_toArray]
  try simp only [List.getElem_cons_succ]
  try simp only [List.getElem_cons_zero]
  try simp only [List.setIfInBounds_toArray]
  try simp only [List.set_cons_succ, List.set_cons_zero]
  refine wpAnyH_take (i := 10) (v := undef) rfl (by kernel_rfl) (by kernel_rfl) (by kernel_rfl) (fun _ _ _ h => h) (Or.inr ⟨by kernel_rfl, rfl⟩) hHeld ?_
  try simp only [Act.put]
  try simp only [List.getElem_toArray]
  try simp only [List.getElem_cons_succ]
  try simp only [List.getElem_cons_zero]
  try simp only [List.setIfInBounds_toArray]
  try simp only [List.set_cons_succ, List.set_cons_zero]
  refine wpAnyH_take (i := 11) (v := .bool false) rfl (by kernel_rfl) (by kernel_rfl) (by kernel_rfl) (fun _ _ _ h => h) (Or.inl ⟨by kernel_rfl, fun w1 hSw => by clear hHeld; obtain ⟨b0, b1, b2, b3, b4, b5, b6, b7, b8, b9⟩ := HCe.out _ hSw; go_simp⟩) hHeld ?_
  try simp only [Act.put]
  try simp only [List.getElem_toArray]
  try simp only [List.getElem_cons_succ]
  try simp only [List.getElem_cons_zero]
  try simp only [List.setIfInBounds_toArray]
  try simp only [List.set_cons_succ, List.set_cons_zero]
  refine wpAnyH_take (i := 12) (v := .bool false) rfl (by kernel_rfl) (by kernel_rfl) (by kernel_rfl) (fun _ _ _ h => h) (Or.inl ⟨by kernel_rfl, fun w1 hSw => by clear hHeld; obtain ⟨b0, b1, b2, b3, b4, b5, b6, b7, b8, b9⟩ := HCe.out _ hSw; go_simp⟩) hHeld ?_
  try simp only [Act.put]
  try simp only [List.getElem_toArray]
  try simp only [List.getElem_cons_succ]
  try simp only [List.getElem_cons_zero]
  try simp only [List.setIfInBounds_toArray]
  try simp only [List.set_cons_succ, List.set_cons_zero]
  refine wpAnyH_done (by kernel_rfl) ?_ _
  go_wp2_with fail
  go_ret
  exact .no HO.out rfl HB1.out
set_option maxHeartbeats 4000000 in
set_option maxRecDepth 20000 in
theorem take_81 (h : Kp O base w kb qb v T m s) (_ : Wf m s) (_ : ∀ g, base ≤ g → O g) (hT : Tx w0 t c.tx) (hB0 : Below base w0 w) (hb0 : w0.heap.size ≤ base) (hl : c.tx.length ≤ 140737488351232) (hc : Rc.check c = 81) :
    Calls Tryz.prog 35 #[.pointer (some ⟨kb, 0, none⟩), .agg (chC c t)] w (TP O base m s c kb qb w) := by
  obtain ⟨q, cq, rfl, -, -⟩ := tx_src hT
  have HO : Hid (one m s c = none) := hide (by unfold one; rw [if_pos (by rw [hc]; decide)])
  have HCk : Hid (∀ V, Below base w V → Calls Tryz.prog 64 #[.agg (chC c (.slice q c.tx.length cq))] V fun e w' => e = .returned (.int .i64 81) ∧ Below V.heap.size V w') := hide fun V hV => by
    have := check_any c (.slice q c.tx.length cq) V (hT.below (hB0.trans hV) hb0) hl
    rw [hc] at this
    exact this
  have hlt := h.lt
  have hlow := h.low
  have hHK := h.below (below_alloc w (.cells (chC c (.slice q c.tx.length cq)) 78))
  have hHB : Below base w (w.alloc (.cells (chC c (.slice q c.tx.length cq)) 78)) := (Below.refl _ w).alloc (by omega) _
  have hHN : (w.alloc (.cells (chC c (.slice q c.tx.length cq)) 78)).heap[w.heap.size]? = some (.cells (chC c (.slice q c.tx.length cq)) 78 (0, 0)) := heap_alloc_new w _
  have hsz := World.size_alloc w (.cells (chC c (.slice q c.tx.length cq)) 78)
  generalize c.tx.length = n at *
  simp only [chC] at hHK hHB hHN hsz HCk 
  have HK := hide hHK
  have HB := hide hHB
  have HN := hide hHN
  have HCe : Hid (∀ V : World, V.heap[w.heap.size]? = some (.cells #[.int .i64 c.k, .int .i64 c.n, .int .i64 c.jo, .int .i64 c.ba, .int .i64 c.sl, .int .i64 c.li, .int .i64 c.rc, .int .u64 (c.rb : Int), .string c.pr, .slice q n cq] 78 (0, 0)) → V.cell? ⟨w.heap.size, 0, none⟩ = some (.int .i64 c.k) ∧ V.cell? ⟨w.heap.size, 1, none⟩ = some (.int .i64 c.n) ∧ V.cell? ⟨w.heap.size, 2, none⟩ = some (.int .i64 c.jo) ∧ V.cell? ⟨w.heap.size, 3, none⟩ = some (.int .i64 c.ba) ∧ V.cell? ⟨w.heap.size, 4, none⟩ = some (.int .i64 c.sl) ∧ V.cell? ⟨w.heap.size, 5, none⟩ = some (.int .i64 c.li) ∧ V.cell? ⟨w.heap.size, 6, none⟩ = some (.int .i64 c.rc) ∧ V.cell? ⟨w.heap.size, 7, none⟩ = some (.int .u64 (c.rb : Int)) ∧ V.cell? ⟨w.heap.size, 8, none⟩ = some (.string c.pr) ∧ V.cell? ⟨w.heap.size, 9, none⟩ = some (.slice q n cq)) := hide fun V h1 => by simp [World.cell?, h1]
  obtain ⟨a0, a1, a2, a3, a4, a5, a6, a7, a8, a9⟩ := HCe.out _ HN.out
  clear h hT hB0 hb0 hl hHK hHB hHN hc
  go_enter Tryz.func35, Tryz.ntmps35
  simp only [chC]
  go_upto_region 1 with fail
  generalize w.alloc _ = W at *
  refine wp_region_held_drew (S := fun w' => w'.heap[w.heap.size]? = some (.cells #[.int .i64 c.k, .int .i64 c.n, .int .i64 c.jo, .int .i64 c.ba, .int .i64 c.sl, .int .i64 c.li, .int .i64 c.rc, .int .u64 (c.rb : Int), .string c.pr, .slice q n cq] 78 (0, 0))) (by kernel_rfl) (HN.out) (fun hHeld => ?_)
  refine wpAnyH_take (i := 0) (v := .agg #[.int .i64 c.k, .int .i64 c.n, .int .i64 c.jo, .int .i64 c.ba, .int .i64 c.sl, .int .i64 c.li, .int .i64 c.rc, .int .u64 (c.rb : Int), .string c.pr, .slice q n cq]) rfl (by kernel_rfl) (by kernel_rfl) (by kernel_rfl) (fun _ _ _ h => h) (Or.inl ⟨by kernel_rfl, fun w1 hSw => by clear hHeld; obtain ⟨b0, b1, b2, b3, b4, b5, b6, b7, b8, b9⟩ := HCe.out _ hSw; go_simp⟩) hHeld ?_
  try simp only [Act.put]
  try simp only [List.getElem_toArray]
  try simp only [List.getElem_cons_succ]
  try simp only [List.getElem_cons_zero]
  try simp only [List.setIfInBounds_toArray]
  try simp only [List.set_cons_succ, List.set_cons_zero]
  refine wpAnyH_ready (rs := [1]) (by kernel_rfl) (by simp) ?_
  refine AllReadyH.cons rfl (fun K hK => ?_) AllReadyH.nil
  go_simp
  refine (HCk.out _ HB.out.drew).mono ?_
  rintro e V1 ⟨rfl, hb1⟩
  have HB1 := hide (HB.out.drew.trans (hb1.mono (Nat.le_trans hlow (Nat.le_of_lt HK.out.lt))))
  have HN1 := hide ((hb1.block w.heap.size (lt_of_block HN.out)).trans HN.out)
  clear hb1
  refine hK.out _ _ (HN1.out) (fun hHeld => ?_)
  clear hK K
  try simp only [Act.put]
  try simp only [List.getElem_toArray]
  try simp only [List.getElem_cons_succ]
  try simp only [List.getElem_cons_zero]
  try simp only [List.setIfInBounds_toArray]
  try simp only [List.set_cons_succ, List.set_cons_zero]
  refine wpAnyH_take (i := 2) (v := .bool false) rfl (by kernel_rfl) (by kernel_rfl) (by kernel_rfl) (fun _ _ _ h => h) (Or.inl ⟨by kernel_rfl, fun w1 hSw => by clear hHeld; obtain ⟨b0, b1, b2, b3, b4, b5, b6, b7, b8, b9⟩ := HCe.out _ hSw; go_simp⟩) hHeld ?_
  try simp only [Act.put]
  try simp only [List.getElem_toArray]
  try simp only [List.getElem_cons_succ]
  try simp only [List.getElem_cons_zero]
  try simp only [List.setIfInBounds_toArray]
  try simp only [List.set_cons_succ, List.set_cons_zero]
  refine wpAnyH_take (i := 3) (v := .bool false) rfl (by kernel_rfl) (by kernel_rfl) (by kernel_rfl) (fun _ _ _ h => h) (Or.inl ⟨by kernel_rfl, fun w1 hSw => by clear hHeld; obtain ⟨b0, b1, b2, b3, b4, b5, b6, b7, b8, b9⟩ := HCe.out _ hSw; go_simp⟩) hHeld ?_
  try simp only [Act.put]
  try simp only [List.getElem_toArray]
  try simp only [List.getElem_cons_succ]
  try simp only [List.getElem_cons_zero]
  try simp only [List.setIfInBounds_toArray]
  try simp only [List.set_cons_succ, List.set_cons_zero]
  refine wpAnyH_take (i := 4) (v := undef) rfl (by kernel_rfl) (by kernel_rfl) (by kernel_rfl) (fun _ _ _ h => h) (Or.inr ⟨by kernel_rfl, rfl⟩) hHeld ?_
  try simp only [Act.put]
  try simp only [List.getElem_toArray]
  try simp only [List.getElem_cons_succ]
  try simp only [List.getElem_cons_zero]
  try simp only [List.setIfInBounds_toArray]
  try simp only [List.set_cons_succ, List.set_cons_zero]
  refine wpAnyH_take (i := 5) (v := undef) rfl (by kernel_rfl) (by kernel_rfl) (by kernel_rfl) (fun _ _ _ h => h) (Or.inr ⟨by kernel_rfl, rfl⟩) hHeld ?_
  try simp only [Act.put]
  try simp only [List.getElem_toArray]
  try simp only [List.getElem_cons_succ]
  try simp only [List.getElem_cons_zero]
  try simp only [List.setIfInBounds_toArray]
  try simp only [List.set_cons_succ, List.set_cons_zero]
  refine wpAnyH_take (i := 6) (v := undef) rfl (by kernel_rfl) (by kernel_rfl) (by kernel_rfl) (fun _ _ _ h => h) (Or.inr ⟨by kernel_rfl, rfl⟩) hHeld ?_
  try simp only [Act.put]
  try simp only [List.getElem_toArray]
  try simp only [List.getElem_cons_succ]
  try simp only [List.getElem_cons_zero]
  try simp only [List.setIfInBounds_toArray]
  try simp only [List.set_cons_succ, List.set_cons_zero]
  refine wpAnyH_take (i := 7) (v := undef) rfl (by kernel_rfl) (by kernel_rfl) (by kernel_rfl) (fun _ _ _ h => h) (Or.inr ⟨by kernel_rfl, rfl⟩) hHeld ?_
  try simp only [Act.put]
  try simp only [List.getElem_toArray]
  try simp only [List.getElem_cons_succ]
  try simp only [List.getElem_cons_zero]
  try simp only [List.setIfInBounds_toArray]
  try simp only [List.set_cons_succ, List.set_cons_zero]
  refine wpAnyH_take (i := 8) (v := undef) rfl (by kernel_rfl) (by kernel_rfl) (by kernel_rfl) (fun _ _ _ h => h) (Or.inr ⟨by kernel_rfl, rfl⟩) hHeld ?_
  try simp only [Act.put]
  try simp only [List.getElem_toArray]
  try simp only [List.getElem_cons_succ]
  try simp only [List.getElem_cons_zero]
  try simp only [List.setIfInBounds_toArray]
  try simp only [List.set_cons_succ, List.set_cons_zero]
  refine wpAnyH_take (i := 9) (v := undef) rfl (by kernel_rfl) (by kernel_rfl) (by kernel_rfl) (fun _ _ _ h => h) (Or.inr ⟨by kernel_rfl, rfl⟩) hHeld ?_
  try simp only [Act.put]
  try simp only [List.getElem_toArray]
  try simp only [List.getElem_cons_succ]
  try simp only [List.getElem_cons_zero]
  try simp only [List.setIfInBounds_toArray]
  try simp only [List.set_cons_succ, List.set_cons_zero]
  refine wpAnyH_take (i := 10) (v := undef) rfl (by kernel_rfl) (by kernel_rfl) (by kernel_rfl) (fun _ _ _ h => h) (Or.inr ⟨by kernel_rfl, rfl⟩) hHeld ?_
  try simp only [Act.put]
  try simp only [List.getElem_toArray]
  try simp only [List.getElem_cons_succ]
  try simp only [List.getElem_cons_zero]
  try simp only [List.setIfInBounds_toArray]
  try simp only [List.set_cons_succ, List.set_cons_zero]
  refine wpAnyH_take (i := 11) (v := .bool false) rfl (by kernel_rfl) (by kernel_rfl) (by kernel_rfl) (fun _ _ _ h => h) (Or.inl ⟨by kernel_rfl, fun w1 hSw => by clear hHeld; obtain ⟨b0, b1, b2, b3, b4, b5, b6, b7, b8, b9⟩ := HCe.out _ hSw; go_simp⟩) hHeld ?_
  try simp only [Act.put]
  try simp only [List.getElem_toArray]
  try simp only [List.getElem_cons_succ]
  try simp only [List.getElem_cons_zero]
  try simp only [List.setIfInBounds_toArray]
  try simp only [List.set_cons_succ, List.set_cons_zero]
  refine wpAnyH_take (i := 12) (v := .bool false) rfl (by kernel_rfl) (by kernel_rfl) (by kernel_rfl) (fun _ _ _ h => h) (Or.inl ⟨by kernel_rfl, fun w1 hSw => by clear hHeld; obtain ⟨b0, b1, b2, b3, b4, b5, b6, b7, b8, b9⟩ := HCe.out _ hSw; go_simp⟩) hHeld ?_
  try simp only [Act.put]
  try simp only [List.getElem_toArray]
  try simp only [List.getElem_cons_succ]
  try simp only [List.getElem_cons_zero]
  try simp only [List.setIfInBounds_toArray]
  try simp only [List.set_cons_succ, List.set_cons_zero]
  refine wpAnyH_done (by kernel_rfl) ?_ _
  go_wp2_with fail
  go_ret
  exact .no HO.out rfl HB1.out
end
end Go.Proofs.YtepondcflkledaaGreat.S
end

section
namespace Go.Proofs.YtepondcflkledaaGreat.S
set_option maxRecDepth 20000
open Go.RowKit
open Rc (Ch)
open Q (Rr rr0 Qm Ft Mv)

/-- a job as it is seen -/
def plC (r : Rr) (p : ByteArray) (t : Value) : Array Value := #[.int .i64 r.job, .int .i64 r.st, .int .i64 r.att, .int .i64 r.bdg, .int .i64 r.node, .int .i64 r.life, .int .i64 r.code, .int .u64 r.bits, .string p, t]
theorem results_pl {fn : Func} {p : Tmp} (h : fn.results = #[.cell p 84]) (tmps : Array Value) (w : World) (g : Nat) (cs : Array Value) (hp : tmps.getD p undef = .pointer (some ⟨g, 0, none⟩)) (hg : w.heap[g]? = some (.cells cs 84 (0, 0))) (hc : cs.size = 10) :
    (results fn tmps).run Tryz.prog w = .ok (.agg cs) w := by
  have he := run_loadVar_row (P := Tryz.prog) w g 84 84 cs (0, 0) _ hg Tryz.underlying84 rfl (by rw [hc]; kernel_rfl)
  rw [results_c0 h, hp]
  simp [asAddr, he]
theorem pl_set {w : World} {B : Nat} {c0 c1 c2 c3 c4 c5 c6 c7 c8 c9 : Value} (h : w.heap[B]? = some (.cells #[c0, c1, c2, c3, c4, c5, c6, c7, c8, c9] 84 (0, 0))) (x0 x1 x2 x3 x4 x5 x6 x7 x8 x9 : Value) : ((((((((((w.setCell ⟨B, 0, none⟩ x0).setCell ⟨B, 1, none⟩ x1).setCell ⟨B, 2, none⟩ x2).setCell ⟨B, 3, none⟩ x3).setCell ⟨B, 4, none⟩ x4).setCell ⟨B, 5, none⟩ x5).setCell ⟨B, 6, none⟩ x6).setCell ⟨B, 7, none⟩ x7).setCell ⟨B, 8, none⟩ x8).setCell ⟨B, 9, none⟩ x9).heap[B]? = some (.cells #[x0, x1, x2, x3, x4, x5, x6, x7, x8, x9] 84 (0, 0)) := by
  simp [World.setCell, Array.getElem?_modify, h]
theorem pl_of {w : World} {B : Nat} {c0 c1 c2 c3 c4 c5 c6 c7 c8 c9 : Value} (h : w.heap[B]? = some (.cells #[c0, c1, c2, c3, c4, c5, c6, c7, c8, c9] 84 (0, 0))) : w.cell? ⟨B, 0, none⟩ = some c0 ∧ w.cell? ⟨B, 1, none⟩ = some c1 ∧ w.cell? ⟨B, 2, none⟩ = some c2 ∧ w.cell? ⟨B, 3, none⟩ = some c3 ∧ w.cell? ⟨B, 4, none⟩ = some c4 ∧ w.cell? ⟨B, 5, none⟩ = some c5 ∧ w.cell? ⟨B, 6, none⟩ = some c6 ∧ w.cell? ⟨B, 7, none⟩ = some c7 ∧ w.cell? ⟨B, 8, none⟩ = some c8 ∧ w.cell? ⟨B, 9, none⟩ = some c9 ∧ w.frozen? ⟨B, 0, none⟩ = false ∧ w.frozen? ⟨B, 1, none⟩ = false ∧ w.frozen? ⟨B, 2, none⟩ = false ∧ w.frozen? ⟨B, 3, none⟩ = false ∧ w.frozen? ⟨B, 4, none⟩ = false ∧ w.frozen? ⟨B, 5, none⟩ = false ∧ w.frozen? ⟨B, 6, none⟩ = false ∧ w.frozen? ⟨B, 7, none⟩ = false ∧ w.frozen? ⟨B, 8, none⟩ = false ∧ w.frozen? ⟨B, 9, none⟩ = false := by
  simp [World.cell?, World.frozen?, h]
theorem pl_below {w0 w : World} {n B : Nat} (h : Below n w0 w) (hB : n ≤ B) (x0 x1 x2 x3 x4 x5 x6 x7 x8 x9 : Value) : Below n w0 ((((((((((w.setCell ⟨B, 0, none⟩ x0).setCell ⟨B, 1, none⟩ x1).setCell ⟨B, 2, none⟩ x2).setCell ⟨B, 3, none⟩ x3).setCell ⟨B, 4, none⟩ x4).setCell ⟨B, 5, none⟩ x5).setCell ⟨B, 6, none⟩ x6).setCell ⟨B, 7, none⟩ x7).setCell ⟨B, 8, none⟩ x8).setCell ⟨B, 9, none⟩ x9) := ((((((((((h.setCell hB x0).setCell hB x1).setCell hB x2).setCell hB x3).setCell hB x4).setCell hB x5).setCell hB x6).setCell hB x7).setCell hB x8).setCell hB x9)
theorem pl_other (w : World) {B g : Nat} (hg : g ≠ B) (x0 x1 x2 x3 x4 x5 x6 x7 x8 x9 : Value) : ((((((((((w.setCell ⟨B, 0, none⟩ x0).setCell ⟨B, 1, none⟩ x1).setCell ⟨B, 2, none⟩ x2).setCell ⟨B, 3, none⟩ x3).setCell ⟨B, 4, none⟩ x4).setCell ⟨B, 5, none⟩ x5).setCell ⟨B, 6, none⟩ x6).setCell ⟨B, 7, none⟩ x7).setCell ⟨B, 8, none⟩ x8).setCell ⟨B, 9, none⟩ x9).heap[g]? = w.heap[g]? := (Below.heap_setCell _ ⟨B, 9, none⟩ _ g hg).trans ((Below.heap_setCell _ ⟨B, 8, none⟩ _ g hg).trans ((Below.heap_setCell _ ⟨B, 7, none⟩ _ g hg).trans ((Below.heap_setCell _ ⟨B, 6, none⟩ _ g hg).trans ((Below.heap_setCell _ ⟨B, 5, none⟩ _ g hg).trans ((Below.heap_setCell _ ⟨B, 4, none⟩ _ g hg).trans ((Below.heap_setCell _ ⟨B, 3, none⟩ _ g hg).trans ((Below.heap_setCell _ ⟨B, 2, none⟩ _ g hg).trans ((Below.heap_setCell _ ⟨B, 1, none⟩ _ g hg).trans (Below.heap_setCell _ ⟨B, 0, none⟩ _ g hg)))))))))
theorem own_weak {w : World} {base base' n sz : Nat} {e : TypeId} {v : Value} {xs : List Value} (h : w.ownsRow base e sz v n xs) (hb : base' ≤ base) : w.ownsRow base' e sz v n xs := by
  refine ⟨h.1, ?_⟩
  rcases h.2 with h1 | ⟨g, cap, cur, h1, h2, h3⟩
  · exact .inl h1
  · exact .inr ⟨g, cap, cur, h1, Nat.le_trans hb h2, h3⟩
theorem own_keep {w w' : World} {base n sz : Nat} {e : TypeId} {v : Value} {xs : List Value} (h : w.ownsRow base e sz v n xs) (hk : ∀ g, v.ownBlock = some g → w'.heap[g]? = w.heap[g]?) : w'.ownsRow base e sz v n xs := by
  refine ⟨h.1, ?_⟩
  rcases h.2 with h1 | ⟨g, cap, cur, rfl, h2, h3, h4⟩
  · exact .inl h1
  · exact .inr ⟨g, cap, cur, rfl, h2, (hk g rfl).trans h3, h4⟩
set_option maxHeartbeats 2000000 in
set_option maxRecDepth 20000 in
theorem kplace_any {O : Nat → Prop} {base : Nat} {w : World} {kb qb : Nat} {v : Value} {T : Nat → Value} {m : Int} {s : Sx} (h : Kp O base w kb qb v T m s) {i : Nat} (hi : i < 8) {r : Rr} (hr : r.job = (i : Int) + 1) (hlg : (s.pa i).lg.length ≤ 32) :
    Calls Tryz.prog 38 #[.pointer (some ⟨kb, 0, none⟩), r.val] w fun e w' => ∃ t', e = .returned (.agg (plC r (s.pa i).pr t')) ∧ w'.ownsRow w.heap.size 9 1 t' (s.pa i).lg.length (tcs (s.pa i).lg) ∧ Below w.heap.size w w' := by
  have H0 := (h.below (below_alloc w r.obj)).below (below_alloc (w.alloc r.obj) (.cells #[.int .i64 0, .int .i64 0, .int .i64 0, .int .i64 0, .int .i64 0, .int .i64 0, .int .i64 0, .int .u64 0, .string ⟨#[]⟩, .slice none 0 0] 84))
  have hs0 := World.size_alloc w r.obj
  have hs1 := World.size_alloc (w.alloc r.obj) (.cells #[.int .i64 0, .int .i64 0, .int .i64 0, .int .i64 0, .int .i64 0, .int .i64 0, .int .i64 0, .int .u64 0, .string ⟨#[]⟩, .slice none 0 0] 84)
  have hA : ((w.alloc r.obj).alloc (.cells #[.int .i64 0, .int .i64 0, .int .i64 0, .int .i64 0, .int .i64 0, .int .i64 0, .int .i64 0, .int .u64 0, .string ⟨#[]⟩, .slice none 0 0] 84)).heap[w.heap.size]? = some r.obj := ((below_alloc (w.alloc r.obj) _).block _ (by omega)).trans (heap_alloc_new w _)
  have hR := heap_alloc_new (w.alloc r.obj) (.cells #[.int .i64 0, .int .i64 0, .int .i64 0, .int .i64 0, .int .i64 0, .int .i64 0, .int .i64 0, .int .u64 0, .string ⟨#[]⟩, .slice none 0 0] 84)
  rw [hs0] at hR
  have hB : Below w.heap.size w ((w.alloc r.obj).alloc (.cells #[.int .i64 0, .int .i64 0, .int .i64 0, .int .i64 0, .int .i64 0, .int .i64 0, .int .i64 0, .int .u64 0, .string ⟨#[]⟩, .slice none 0 0] 84)) := ((Below.refl _ w).alloc (Nat.le_refl _) _).alloc (by omega) _
  have hlt := h.lt
  obtain ⟨p, cap, hT, -, -⟩ := tx_src (h.lg i hi)
  have cp := H0.cp hi
  have cl := H0.cl hi
  rw [hT] at cl
  have HK := hide (H0.lg i hi)
  rw [hT] at HK
  have hltW := H0.lt
  have a0 : ((w.alloc r.obj).alloc (.cells #[.int .i64 0, .int .i64 0, .int .i64 0, .int .i64 0, .int .i64 0, .int .i64 0, .int .i64 0, .int .u64 0, .string ⟨#[]⟩, .slice none 0 0] 84)).cell? ⟨w.heap.size, 0, none⟩ = some (.int .i64 ((i : Int) + 1)) := by simp [World.cell?, hA, hr]
  generalize (s.pa i).lg = lg at *
  generalize (s.pa i).pr = pr at *
  obtain ⟨n, hn⟩ : ∃ n, lg.length = n := ⟨_, rfl⟩
  rw [hn] at cl HK hlg
  clear h H0 hT hr
  have hi8 : (i : Int) < 8 := by omega
  have e1 : (i : Int) + 1 - 1 = (i : Int) := by omega
  go_enter Tryz.func38, Tryz.ntmps38
  go_upto_region 1 with fail
  have hA' := hA
  have HA0 := hide hA
  have HR0 := hide hR
  have HB0 := hide hB
  have hsW : ((w.alloc r.obj).alloc (.cells #[.int .i64 0, .int .i64 0, .int .i64 0, .int .i64 0, .int .i64 0, .int .i64 0, .int .i64 0, .int .u64 0, .string ⟨#[]⟩, .slice none 0 0] 84)).heap.size = w.heap.size + 1 + 1 := by omega
  clear hA hR hB hA' hs0 hs1
  generalize (w.alloc r.obj).alloc (.cells #[.int .i64 0, .int .i64 0, .int .i64 0, .int .i64 0, .int .i64 0, .int .i64 0, .int .i64 0, .int .u64 0, .string ⟨#[]⟩, .slice none 0 0] 84) = W at *
  have cp2 : (W.alloc (.cells #[.string ⟨#[]⟩, .slice none 0 0] 54)).cell? ⟨kb, 2 + i * 2, none⟩ = some (.string pr) := Lib.cell?_alloc_some _ cp
  have cl2 : (W.alloc (.cells #[.string ⟨#[]⟩, .slice none 0 0] 54)).cell? ⟨kb, 2 + i * 2 + 1, none⟩ = some (.slice p n cap) := Lib.cell?_alloc_some _ cl
  have a02 : (W.alloc (.cells #[.string ⟨#[]⟩, .slice none 0 0] 54)).cell? ⟨w.heap.size, 0, none⟩ = some (.int .i64 ((i : Int) + 1)) := Lib.cell?_alloc_some _ a0
  have HSW := hide hsW
  clear hsW
  go_region
  have hsW := HSW.out
  have HP : Hid ((W.alloc (.cells #[.string pr, .slice p n cap] 54)).heap[w.heap.size + 1 + 1]? = some (.cells #[.string pr, .slice p n cap] 54 (0, 0))) := hide (by rw [← hsW]; exact heap_alloc_new W _)
  have hba := below_alloc W (.cells #[.string pr, .slice p n cap] 54)
  have HA := hide ((hba.block _ (lt_of_block HA0.out)).trans HA0.out)
  have HR := hide ((hba.block _ (lt_of_block HR0.out)).trans HR0.out)
  have HB : Hid (Below w.heap.size w (W.alloc (.cells #[.string pr, .slice p n cap] 54))) := hide (HB0.out.alloc (by omega) _)
  have HT := hide (HK.out.below hba (Nat.le_refl _))
  have hs2 : w.heap.size ≤ (W.alloc (.cells #[.string pr, .slice p n cap] 54)).heap.size := HB.out.size
  have hAl := lt_of_block HA.out
  have hRl := lt_of_block HR.out
  have hPl := lt_of_block HP.out
  clear hba HA0 HR0 HB0 HK cp cl a0 cp2 cl2 a02
  rw [hsW]
  generalize W.alloc (.cells #[.string pr, .slice p n cap] 54) = W2 at *
  have HC := hide (s_clone (w := W2.drew.drew) (tx_keep HT.out (Nat.le_refl _) fun _ _ => rfl) (by rw [hn]; omega))
  have HCe : Hid (∀ w' : World, (fun w' => w'.heap[w.heap.size]? = some (.cells #[.int .i64 r.job, .int .i64 r.st, .int .i64 r.att, .int .i64 r.bdg, .int .i64 r.node, .int .i64 r.life, .int .i64 r.code, .int .u64 r.bits] 82 (0, 0)) ∧ w'.heap[w.heap.size + 1 + 1]? = some (.cells #[.string pr, .slice p n cap] 54 (0, 0))) w' → w'.cell? ⟨w.heap.size, 0, none⟩ = some (.int .i64 r.job) ∧ w'.cell? ⟨w.heap.size, 1, none⟩ = some (.int .i64 r.st) ∧ w'.cell? ⟨w.heap.size, 2, none⟩ = some (.int .i64 r.att) ∧ w'.cell? ⟨w.heap.size, 3, none⟩ = some (.int .i64 r.bdg) ∧ w'.cell? ⟨w.heap.size, 4, none⟩ = some (.int .i64 r.node) ∧ w'.cell? ⟨w.heap.size, 5, none⟩ = some (.int .i64 r.life) ∧ w'.cell? ⟨w.heap.size, 6, none⟩ = some (.int .i64 r.code) ∧ w'.cell? ⟨w.heap.size, 7, none⟩ = some (.int .u64 r.bits) ∧ w'.cell? ⟨w.heap.size + 1 + 1, 0, none⟩ = some (.string pr) ∧ w'.cell? ⟨w.heap.size + 1 + 1, 1, none⟩ = some (.slice p n cap)) := hide fun w' hw => by
    obtain ⟨h1, h2⟩ := hw
    simp [World.cell?, h1, h2]
  go_upto_region 2 with fail
  refine wp_region_held_drew (S := fun w' => w'.heap[w.heap.size]? = some (.cells #[.int .i64 r.job, .int .i64 r.st, .int .i64 r.att, .int .i64 r.bdg, .int .i64 r.node, .int .i64 r.life, .int .i64 r.code, .int .u64 r.bits] 82 (0, 0)) ∧ w'.heap[w.heap.size + 1 + 1]? = some (.cells #[.string pr, .slice p n cap] 54 (0, 0))) (by kernel_rfl) (⟨HA.out, HP.out⟩) (fun hHeld => ?_)
  refine wpAnyH_take (i := 0) (v := .agg #[.int .i64 r.job, .int .i64 r.st, .int .i64 r.att, .int .i64 r.bdg, .int .i64 r.node, .int .i64 r.life, .int .i64 r.code, .int .u64 r.bits]) rfl (by kernel_rfl) (by kernel_rfl) (by kernel_rfl) (fun _ _ _ h => h) (Or.inl ⟨by kernel_rfl, fun w1 hSw => by clear hHeld; obtain ⟨k0, k1, k2, k3, k4, k5, k6, k7, k8, k9⟩ := HCe.out _ hSw; go_simp⟩) hHeld ?_
  try simp only [Act.put]
  try simp only [List.getElem_toArray]
  try simp only [List.getElem_cons_succ]
  try simp only [List.getElem_cons_zero]
  try simp only [List.setIfInBounds_toArray]
  try simp only [List.set_cons_succ, List.set_cons_zero]
  refine wpAnyH_take (i := 1) (v := .pointer (some ⟨w.heap.size + 1 + 1, 0, none⟩)) rfl (by kernel_rfl) (by kernel_rfl) (by kernel_rfl) (fun _ _ _ h => h) (Or.inl ⟨by kernel_rfl, fun w1 hSw => by clear hHeld; obtain ⟨k0, k1, k2, k3, k4, k5, k6, k7, k8, k9⟩ := HCe.out _ hSw; go_simp⟩) hHeld ?_
  try simp only [Act.put]
  try simp only [List.getElem_toArray]
  try simp only [List.getElem_cons_succ]
  try simp only [List.getElem_cons_zero]
  try simp only [List.setIfInBounds_toArray]
  try simp only [List.set_cons_succ, List.set_cons_zero]
  refine wpAnyH_take (i := 2) (v := .string pr) rfl (by kernel_rfl) (by kernel_rfl) (by kernel_rfl) (fun _ _ _ h => h) (Or.inl ⟨by kernel_rfl, fun w1 hSw => by clear hHeld; obtain ⟨k0, k1, k2, k3, k4, k5, k6, k7, k8, k9⟩ := HCe.out _ hSw; go_simp⟩) hHeld ?_
  try simp only [Act.put]
  try simp only [List.getElem_toArray]
  try simp only [List.getElem_cons_succ]
  try simp only [List.getElem_cons_zero]
  try simp only [List.setIfInBounds_toArray]
  try simp only [List.set_cons_succ, List.set_cons_zero]
  refine wpAnyH_take (i := 3) (v := .pointer (some ⟨w.heap.size + 1 + 1, 1, none⟩)) rfl (by kernel_rfl) (by kernel_rfl) (by kernel_rfl) (fun _ _ _ h => h) (Or.inl ⟨by kernel_rfl, fun w1 hSw => by clear hHeld; obtain ⟨k0, k1, k2, k3, k4, k5, k6, k7, k8, k9⟩ := HCe.out _ hSw; go_simp⟩) hHeld ?_
  try simp only [Act.put]
  try simp only [List.getElem_toArray]
  try simp only [List.getElem_cons_succ]
  try simp only [List.getElem_cons_zero]
  try simp only [List.setIfInBounds_toArray]
  try simp only [List.set_cons_succ, List.set_cons_zero]
  refine wpAnyH_take (i := 4) (v := .slice p n cap) rfl (by kernel_rfl) (by kernel_rfl) (by kernel_rfl) (fun _ _ _ h => h) (Or.inl ⟨by kernel_rfl, fun w1 hSw => by clear hHeld; obtain ⟨k0, k1, k2, k3, k4, k5, k6, k7, k8, k9⟩ := HCe.out _ hSw; go_simp⟩) hHeld ?_
  try simp only [Act.put]
  try simp only [List.getElem_toArray]
  try simp only [List.getElem_cons_succ]
  try simp only [List.getElem_cons_zero]
  try simp only [List.setIfInBounds_toArray]
  try simp only [List.set_cons_succ, List.set_cons_zero]
  refine wpAnyH_ready (rs := [5]) (by kernel_rfl) (by simp) ?_
  refine AllReadyH.cons rfl (fun K hK => ?_) AllReadyH.nil
  go_simp
  refine HC.out.mono ?_
  rintro e V1 ⟨t7, rfl, ho, hb⟩
  have hn7 := own_slice ho
  rw [hn] at hn7
  obtain ⟨p7, c7, rfl⟩ := hn7
  have HO := hide ho
  have HB1 := hide (HB.out.drew.drew.trans (hb.mono hs2))
  have HS1 := hide (⟨(hb.block _ hAl).trans HA.out, (hb.block _ hPl).trans HP.out⟩ : _ ∧ _)
  have HR1 := hide ((hb.block _ hRl).trans HR.out)
  clear ho hb
  refine hK.out _ _ (HS1.out) (fun hHeld => ?_)
  clear hK K
  try simp only [Act.put]
  try simp only [List.getElem_toArray]
  try simp only [List.getElem_cons_succ]
  try simp only [List.getElem_cons_zero]
  try simp only [List.setIfInBounds_toArray]
  try simp only [List.set_cons_succ, List.set_cons_zero]
  refine wpAnyH_take (i := 6) (v := .agg #[.int .i64 r.job, .int .i64 r.st, .int .i64 r.att, .int .i64 r.bdg, .int .i64 r.node, .int .i64 r.life, .int .i64 r.code, .int .u64 r.bits, .string pr, .slice p7 n c7]) rfl (by kernel_rfl) (by kernel_rfl) (by kernel_rfl) (fun _ _ _ h => h) (Or.inl ⟨by kernel_rfl, fun w1 hSw => by clear hHeld; obtain ⟨k0, k1, k2, k3, k4, k5, k6, k7, k8, k9⟩ := HCe.out _ hSw; go_simp⟩) hHeld ?_
  try simp only [Act.put]
  try simp only [List.getElem_toArray]
  try simp only [List.getElem_cons_succ]
  try simp only [List.getElem_cons_zero]
  try simp only [List.setIfInBounds_toArray]
  try simp only [List.set_cons_succ, List.set_cons_zero]
  refine wpAnyH_ready (rs := [7]) (by kernel_rfl) (by simp) ?_
  refine AllReadyH.cons rfl (fun K hK => ?_) AllReadyH.nil
  obtain ⟨q0, q1, q2, q3, q4, q5, q6, q7, q8, q9, z0, z1, z2, z3, z4, z5, z6, z7, z8, z9⟩ := pl_of HR1.out
  have hRl1 := lt_of_block HR1.out
  have HRF := hide (pl_set HR1.out (.int .i64 r.job) (.int .i64 r.st) (.int .i64 r.att) (.int .i64 r.bdg) (.int .i64 r.node) (.int .i64 r.life) (.int .i64 r.code) (.int .u64 r.bits) (.string pr) (.slice p7 n c7))
  have HSF := hide (⟨(pl_other V1 (B := w.heap.size + 1) (g := w.heap.size) (by omega) (.int .i64 r.job) (.int .i64 r.st) (.int .i64 r.att) (.int .i64 r.bdg) (.int .i64 r.node) (.int .i64 r.life) (.int .i64 r.code) (.int .u64 r.bits) (.string pr) (.slice p7 n c7)).trans HS1.out.1, (pl_other V1 (B := w.heap.size + 1) (g := w.heap.size + 1 + 1) (by omega) (.int .i64 r.job) (.int .i64 r.st) (.int .i64 r.att) (.int .i64 r.bdg) (.int .i64 r.node) (.int .i64 r.life) (.int .i64 r.code) (.int .u64 r.bits) (.string pr) (.slice p7 n c7)).trans HS1.out.2⟩ : _ ∧ _)
  have HBF := hide (pl_below HB1.out (Nat.le_succ _) (.int .i64 r.job) (.int .i64 r.st) (.int .i64 r.att) (.int .i64 r.bdg) (.int .i64 r.node) (.int .i64 r.life) (.int .i64 r.code) (.int .u64 r.bits) (.string pr) (.slice p7 n c7))
  go_simp
  refine hK.out _ _ (HSF.out) (fun hHeld => ?_)
  clear hK K
  try simp only [Act.put]
  try simp only [List.getElem_toArray]
  try simp only [List.getElem_cons_succ]
  try simp only [List.getElem_cons_zero]
  try simp only [List.setIfInBounds_toArray]
  try simp only [List.set_cons_succ, List.set_cons_zero]
  refine wpAnyH_done (by kernel_rfl) ?_ _
  go_wp2_with fail
  refine bodyPost_ret (results_pl rfl _ _ (w.heap.size + 1) _ rfl HRF.out rfl) rfl ?_
  have hO1 := HO.out
  rw [hn] at hO1
  exact ⟨_, rfl, own_weak (own_keep hO1 fun g hg => pl_other V1 (B := w.heap.size + 1) (by have h1 : W2.heap.size ≤ g := (HO.out.lt g hg).1; omega) _ _ _ _ _ _ _ _ _ _) hs2, HBF.out⟩
end Go.Proofs.YtepondcflkledaaGreat.S
end
