import Derived.Test.YtkfnedhllfdghaaGreatDoorMgBK
import Derived.Test.YtkfnedhllfdghaaGreatDoorMgAR

section
namespace Go.Proofs.YtkfnedhllfdghaaGreatDoor.RN
open Go.RowKit Go.Shelf
set_option maxRecDepth 20000

/-- what comes, as it lies: its sender, its message -/
structure Hq (w : World) (X : Nat) (n l : Int) (m : W.Wr.Ms) (V : World) : Prop where
  b0 : V.cell? ⟨w.heap.size, 0, none⟩ = some (.int .i64 n)
  b1 : V.cell? ⟨w.heap.size, 1, none⟩ = some (.int .i64 l)
  mg : W.Mg V X m
  lt : w.heap.size < V.heap.size
  bl : Below w.heap.size w V
theorem Hq.up {w V V' : World} {X : Nat} {n l : Int} {m : W.Wr.Ms} (h : Hq w X n l m V) (hb : Below V.heap.size V V') : Hq w X n l m V' :=
  ⟨(hb.cell (p := ⟨w.heap.size, 0, none⟩) h.lt).trans h.b0, (hb.cell (p := ⟨w.heap.size, 1, none⟩) h.lt).trans h.b1, (hb.block _ (lt_of_block h.mg)).trans h.mg, Nat.lt_of_lt_of_le h.lt hb.size, h.bl.trans (hb.mono h.bl.size)⟩
def tabs (n l : Int) : Array Value := if n = 0 ∧ l = 0 then tab0 else if n = 1 ∧ l = 0 then tab1 else tab2
theorem doings_any (n l : Int) (w : World) : Calls Tryz.prog 58 #[.agg #[.int .i64 n, .int .i64 l]] w fun e w' => e = .returned (.agg (tabs n l)) ∧ Below w.heap.size w w' := by
  unfold tabs
  by_cases h0 : n = 0 ∧ l = 0
  · rw [if_pos h0]
    obtain ⟨rfl, rfl⟩ := h0
    exact doings_0 w
  · rw [if_neg h0]
    by_cases h1 : n = 1 ∧ l = 0
    · rw [if_pos h1]
      obtain ⟨rfl, rfl⟩ := h1
      exact doings_1 w
    · rw [if_neg h1]
      exact doings_2 w h0 h1
section
variable {w : World} {a : RA} {r : Rn}
set_option maxHeartbeats 4000000 in
theorem hear_bad (n l : Int) {b : ByteArray} {k : Nat} {M : W.Wr.Ms} (hd : ∀ V, Calls Tryz.prog 57 #[.string b] V fun e w' => e = .returned (.tuple #[.agg (W.msgC M), .int .i64 (k : Int)]) ∧ Below V.heap.size V w') (hk : k ≠ 0) :
    Calls Tryz.prog 22 #[.pointer (some ⟨a.R, 0, none⟩), .agg #[.int .i64 n, .int .i64 l], .string b] w fun e w' => e = .returned (.tuple #[]) ∧ Below w.heap.size w w' := by
  have HD := hide hd
  unfold W.msgC at HD
  have bk : ((k : Int) != 0) = true := by simp; exact hk
  have HB0 := hide (CH.below_alloc w (.cells #[.int .i64 n, .int .i64 l] 38))
  clear hd hk
  go_enter Tryz.func22, Tryz.ntmps22
  go_wp2_with fail
  refine (HD.out _).mono ?_
  rintro e w2 ⟨rfl, hb2⟩
  have HB2 := hide (HB0.out.trans (hb2.mono HB0.out.size))
  clear hb2 HD HB0
  go_wp2_with fail
  refine bodyPost_ret (results_none rfl _ _ _) rfl ?_
  exact ⟨rfl, HB2.out.trans ((CH.below_alloc w2 _).mono HB2.out.size)⟩
set_option maxHeartbeats 8000000 in
theorem hear_nil (n l : Int) {b : ByteArray} {m : W.Wr.Ms} {tab : Array Value} (hd : ∀ V, Calls Tryz.prog 57 #[.string b] V fun e w' => e = .returned (.tuple #[.agg (W.msgC m), .int .i64 0]) ∧ Below V.heap.size V w')
    (hdo : ∀ V, Calls Tryz.prog 58 #[.agg #[.int .i64 n, .int .i64 l]] V fun e w' => e = .returned (.agg tab) ∧ Below V.heap.size V w')
    (hix : ∀ V : World, (Instr.index 129 (.agg tab) (.int .i64 m.k)).run Tryz.prog V = .ok (.nilFunc) V) :
    Calls Tryz.prog 22 #[.pointer (some ⟨a.R, 0, none⟩), .agg #[.int .i64 n, .int .i64 l], .string b] w fun e w' => e = .returned (.tuple #[]) ∧ Below w.heap.size w w' := by
  have HD := hide hd
  unfold W.msgC at HD
  have HDo := hide hdo
  have hne : ∀ V : World, (binOp .neq 128 (.nilFunc) .nilFunc).run Tryz.prog V = .ok (.bool false) V := fun _ => by kernel_rfl
  have HB0 := hide (CH.below_alloc w (.cells #[.int .i64 n, .int .i64 l] 38))
  have HN0 := hide (heap_alloc_new w (.cells #[.int .i64 n, .int .i64 l] 38))
  clear hd hdo
  go_enter Tryz.func22, Tryz.ntmps22
  go_wp2_with fail
  refine (HD.out _).mono ?_
  rintro e w2 ⟨rfl, hb2⟩
  have HQ : Hid (Hq w w2.heap.size n l m (w2.alloc (.cells (W.msgC m) 67))) := hide (by
    have hN := (hb2.block _ (lt_of_block HN0.out)).trans HN0.out
    have hlt := lt_of_block hN
    have hb3 := CH.below_alloc w2 (.cells (W.msgC m) 67)
    have hN3 := (hb3.block _ hlt).trans hN
    exact ⟨cell_of hN3 rfl, cell_of hN3 rfl, heap_alloc_new w2 _, lt_of_block hN3, (HB0.out.trans (hb2.mono HB0.out.size)).trans (hb3.mono (Nat.le_of_lt hlt))⟩)
  clear hb2 HD HB0 HN0
  go_upto_region 3 with fail
  generalize w2.heap.size = X at *
  unfold W.msgC at HQ
  generalize w2.alloc (.cells #[.int .i64 m.k, .int .i64 m.se, .int .i64 m.nu, .int .i64 m.jo, .int .i64 m.ba, .int .i64 m.ix, .int .i64 m.co, .int .i64 m.rc, .int .u64 (m.rb : Int), .string m.tx, .string m.pr] 67) = W at *
  have HQd := hide (HQ.out.up (CH.below_drew (Below.refl _ W)))
  refine wp_region_held_drew (S := fun V => Hq w X n l m V) (by kernel_rfl) (HQd.out) (fun hHeld => ?_)
  refine wpAnyH_take (i := 0) (v := .agg #[.int .i64 n, .int .i64 l]) rfl (by kernel_rfl) (by kernel_rfl) (by kernel_rfl) (fun _ _ _ h => h) (Or.inl ⟨by kernel_rfl, fun w1 hSw => by clear hHeld; have q0 := hSw.b0; have q1 := hSw.b1; obtain ⟨a0, a1, a2, a3, a4, a5, a6, a7, a8, a9, a10⟩ := msg_cells hSw.mg; go_simp⟩) hHeld ?_
  try simp only [Act.put]
  try simp only [List.getElem_toArray]
  try simp only [List.getElem_cons_succ]
  try simp only [List.getElem_cons_zero]
  try simp only [List.setIfInBounds_toArray]
  try simp only [List.set_cons_succ, List.set_cons_zero]
  refine wpAnyH_take (i := 2) (v := .pointer (some ⟨X, 0, none⟩)) rfl (by kernel_rfl) (by kernel_rfl) (by kernel_rfl) (fun _ _ _ h => h) (Or.inl ⟨by kernel_rfl, fun w1 hSw => by clear hHeld; have q0 := hSw.b0; have q1 := hSw.b1; obtain ⟨a0, a1, a2, a3, a4, a5, a6, a7, a8, a9, a10⟩ := msg_cells hSw.mg; go_simp⟩) hHeld ?_
  try simp only [Act.put]
  try simp only [List.getElem_toArray]
  try simp only [List.getElem_cons_succ]
  try simp only [List.getElem_cons_zero]
  try simp only [List.setIfInBounds_toArray]
  try simp only [List.set_cons_succ, List.set_cons_zero]
  refine wpAnyH_take (i := 3) (v := .int .i64 m.k) rfl (by kernel_rfl) (by kernel_rfl) (by kernel_rfl) (fun _ _ _ h => h) (Or.inl ⟨by kernel_rfl, fun w1 hSw => by clear hHeld; have q0 := hSw.b0; have q1 := hSw.b1; obtain ⟨a0, a1, a2, a3, a4, a5, a6, a7, a8, a9, a10⟩ := msg_cells hSw.mg; go_simp⟩) hHeld ?_
  try simp only [Act.put]
  try simp only [List.getElem_toArray]
  try simp only [List.getElem_cons_succ]
  try simp only [List.getElem_cons_zero]
  try simp only [List.setIfInBounds_toArray]
  try simp only [List.set_cons_succ, List.set_cons_zero]
  refine wpAnyH_ready (rs := [1]) (by kernel_rfl) (by simp) ?_
  refine AllReadyH.cons rfl (fun K hK => ?_) AllReadyH.nil
  go_simp
  refine (HDo.out _).mono ?_
  rintro e V2 ⟨rfl, hb2⟩
  have HQ2 := hide (HQd.out.up hb2)
  clear hb2
  refine hK.out _ _ (HQ2.out) (fun hHeld => ?_)
  clear hK K
  try simp only [Act.put]
  try simp only [List.getElem_toArray]
  try simp only [List.getElem_cons_succ]
  try simp only [List.getElem_cons_zero]
  try simp only [List.setIfInBounds_toArray]
  try simp only [List.set_cons_succ, List.set_cons_zero]
  refine wpAnyH_take (i := 4) (v := .nilFunc) rfl (by kernel_rfl) (by kernel_rfl) (by kernel_rfl) (fun _ _ _ h => h) (Or.inl ⟨by kernel_rfl, fun w1 hSw => by clear hHeld; have q0 := hSw.b0; have q1 := hSw.b1; obtain ⟨a0, a1, a2, a3, a4, a5, a6, a7, a8, a9, a10⟩ := msg_cells hSw.mg; go_simp⟩) hHeld ?_
  try simp only [Act.put]
  try simp only [List.getElem_toArray]
  try simp only [List.getElem_cons_succ]
  try simp only [List.getElem_cons_zero]
  try simp only [List.setIfInBounds_toArray]
  try simp only [List.set_cons_succ, List.set_cons_zero]
  refine wpAnyH_take (i := 5) (v := .nilFunc) rfl (by kernel_rfl) (by kernel_rfl) (by kernel_rfl) (fun _ _ _ h => h) (Or.inl ⟨by kernel_rfl, fun w1 hSw => by clear hHeld; have q0 := hSw.b0; have q1 := hSw.b1; obtain ⟨a0, a1, a2, a3, a4, a5, a6, a7, a8, a9, a10⟩ := msg_cells hSw.mg; go_simp⟩) hHeld ?_
  try simp only [Act.put]
  try simp only [List.getElem_toArray]
  try simp only [List.getElem_cons_succ]
  try simp only [List.getElem_cons_zero]
  try simp only [List.setIfInBounds_toArray]
  try simp only [List.set_cons_succ, List.set_cons_zero]
  refine wpAnyH_done (by kernel_rfl) ?_ _
  clear hHeld
  obtain ⟨b0, b1, b2, b3, b4, b5, b6, b7, b8, b9, b10⟩ := msg_cells HQ2.out.mg
  go_wp2_with fail
  go_end0
  exact ⟨rfl, HQ2.out.bl⟩
set_option maxHeartbeats 8000000 in
theorem hear_noted (n l : Int) {b : ByteArray} {m : W.Wr.Ms} {tab : Array Value} (hd : ∀ V, Calls Tryz.prog 57 #[.string b] V fun e w' => e = .returned (.tuple #[.agg (W.msgC m), .int .i64 0]) ∧ Below V.heap.size V w')
    (hdo : ∀ V, Calls Tryz.prog 58 #[.agg #[.int .i64 n, .int .i64 l]] V fun e w' => e = .returned (.agg tab) ∧ Below V.heap.size V w')
    (hix : ∀ V : World, (Instr.index 129 (.agg tab) (.int .i64 m.k)).run Tryz.prog V = .ok (.func (.func 104) #[] #[]) V) {r' : Rn} (hf : ∀ V, Below w.heap.size w V → Calls Tryz.prog 104 #[.pointer (some ⟨a.R, 0, none⟩), .agg (W.msgC m)] V fun e w' => e = .returned (.tuple #[]) ∧ ∃ a', St V a r w' a' r') :
    Calls Tryz.prog 22 #[.pointer (some ⟨a.R, 0, none⟩), .agg #[.int .i64 n, .int .i64 l], .string b] w fun e w' => e = .returned (.tuple #[]) ∧ ∃ a', St w a r w' a' r' := by
  have HD := hide hd
  unfold W.msgC at HD
  have HDo := hide hdo
  have hne : ∀ V : World, (binOp .neq 128 (.func (.func 104) #[] #[]) .nilFunc).run Tryz.prog V = .ok (.bool true) V := fun _ => by kernel_rfl
  have HF := hide hf
  unfold W.msgC at HF
  clear hf
  have HB0 := hide (CH.below_alloc w (.cells #[.int .i64 n, .int .i64 l] 38))
  have HN0 := hide (heap_alloc_new w (.cells #[.int .i64 n, .int .i64 l] 38))
  clear hd hdo
  go_enter Tryz.func22, Tryz.ntmps22
  go_wp2_with fail
  refine (HD.out _).mono ?_
  rintro e w2 ⟨rfl, hb2⟩
  have HQ : Hid (Hq w w2.heap.size n l m (w2.alloc (.cells (W.msgC m) 67))) := hide (by
    have hN := (hb2.block _ (lt_of_block HN0.out)).trans HN0.out
    have hlt := lt_of_block hN
    have hb3 := CH.below_alloc w2 (.cells (W.msgC m) 67)
    have hN3 := (hb3.block _ hlt).trans hN
    exact ⟨cell_of hN3 rfl, cell_of hN3 rfl, heap_alloc_new w2 _, lt_of_block hN3, (HB0.out.trans (hb2.mono HB0.out.size)).trans (hb3.mono (Nat.le_of_lt hlt))⟩)
  clear hb2 HD HB0 HN0
  go_upto_region 3 with fail
  generalize w2.heap.size = X at *
  unfold W.msgC at HQ
  generalize w2.alloc (.cells #[.int .i64 m.k, .int .i64 m.se, .int .i64 m.nu, .int .i64 m.jo, .int .i64 m.ba, .int .i64 m.ix, .int .i64 m.co, .int .i64 m.rc, .int .u64 (m.rb : Int), .string m.tx, .string m.pr] 67) = W at *
  have HQd := hide (HQ.out.up (CH.below_drew (Below.refl _ W)))
  refine wp_region_held_drew (S := fun V => Hq w X n l m V) (by kernel_rfl) (HQd.out) (fun hHeld => ?_)
  refine wpAnyH_take (i := 0) (v := .agg #[.int .i64 n, .int .i64 l]) rfl (by kernel_rfl) (by kernel_rfl) (by kernel_rfl) (fun _ _ _ h => h) (Or.inl ⟨by kernel_rfl, fun w1 hSw => by clear hHeld; have q0 := hSw.b0; have q1 := hSw.b1; obtain ⟨a0, a1, a2, a3, a4, a5, a6, a7, a8, a9, a10⟩ := msg_cells hSw.mg; go_simp⟩) hHeld ?_
  try simp only [Act.put]
  try simp only [List.getElem_toArray]
  try simp only [List.getElem_cons_succ]
  try simp only [List.getElem_cons_zero]
  try simp only [List.setIfInBounds_toArray]
  try simp only [List.set_cons_succ, List.set_cons_zero]
  refine wpAnyH_take (i := 2) (v := .pointer (some ⟨X, 0, none⟩)) rfl (by kernel_rfl) (by kernel_rfl) (by kernel_rfl) (fun _ _ _ h => h) (Or.inl ⟨by kernel_rfl, fun w1 hSw => by clear hHeld; have q0 := hSw.b0; have q1 := hSw.b1; obtain ⟨a0, a1, a2, a3, a4, a5, a6, a7, a8, a9, a10⟩ := msg_cells hSw.mg; go_simp⟩) hHeld ?_
  try simp only [Act.put]
  try simp only [List.getElem_toArray]
  try simp only [List.getElem_cons_succ]
  try simp only [List.getElem_cons_zero]
  try simp only [List.setIfInBounds_toArray]
  try simp only [List.set_cons_succ, List.set_cons_zero]
  refine wpAnyH_take (i := 3) (v := .int .i64 m.k) rfl (by kernel_rfl) (by kernel_rfl) (by kernel_rfl) (fun _ _ _ h => h) (Or.inl ⟨by kernel_rfl, fun w1 hSw => by clear hHeld; have q0 := hSw.b0; have q1 := hSw.b1; obtain ⟨a0, a1, a2, a3, a4, a5, a6, a7, a8, a9, a10⟩ := msg_cells hSw.mg; go_simp⟩) hHeld ?_
  try simp only [Act.put]
  try simp only [List.getElem_toArray]
  try simp only [List.getElem_cons_succ]
  try simp only [List.getElem_cons_zero]
  try simp only [List.setIfInBounds_toArray]
  try simp only [List.set_cons_succ, List.set_cons_zero]
  refine wpAnyH_ready (rs := [1]) (by kernel_rfl) (by simp) ?_
  refine AllReadyH.cons rfl (fun K hK => ?_) AllReadyH.nil
  go_simp
  refine (HDo.out _).mono ?_
  rintro e V2 ⟨rfl, hb2⟩
  have HQ2 := hide (HQd.out.up hb2)
  clear hb2
  refine hK.out _ _ (HQ2.out) (fun hHeld => ?_)
  clear hK K
  try simp only [Act.put]
  try simp only [List.getElem_toArray]
  try simp only [List.getElem_cons_succ]
  try simp only [List.getElem_cons_zero]
  try simp only [List.setIfInBounds_toArray]
  try simp only [List.set_cons_succ, List.set_cons_zero]
  refine wpAnyH_take (i := 4) (v := .func (.func 104) #[] #[]) rfl (by kernel_rfl) (by kernel_rfl) (by kernel_rfl) (fun _ _ _ h => h) (Or.inl ⟨by kernel_rfl, fun w1 hSw => by clear hHeld; have q0 := hSw.b0; have q1 := hSw.b1; obtain ⟨a0, a1, a2, a3, a4, a5, a6, a7, a8, a9, a10⟩ := msg_cells hSw.mg; go_simp⟩) hHeld ?_
  try simp only [Act.put]
  try simp only [List.getElem_toArray]
  try simp only [List.getElem_cons_succ]
  try simp only [List.getElem_cons_zero]
  try simp only [List.setIfInBounds_toArray]
  try simp only [List.set_cons_succ, List.set_cons_zero]
  refine wpAnyH_take (i := 5) (v := .func (.func 104) #[] #[]) rfl (by kernel_rfl) (by kernel_rfl) (by kernel_rfl) (fun _ _ _ h => h) (Or.inl ⟨by kernel_rfl, fun w1 hSw => by clear hHeld; have q0 := hSw.b0; have q1 := hSw.b1; obtain ⟨a0, a1, a2, a3, a4, a5, a6, a7, a8, a9, a10⟩ := msg_cells hSw.mg; go_simp⟩) hHeld ?_
  try simp only [Act.put]
  try simp only [List.getElem_toArray]
  try simp only [List.getElem_cons_succ]
  try simp only [List.getElem_cons_zero]
  try simp only [List.setIfInBounds_toArray]
  try simp only [List.set_cons_succ, List.set_cons_zero]
  refine wpAnyH_done (by kernel_rfl) ?_ _
  clear hHeld
  obtain ⟨b0, b1, b2, b3, b4, b5, b6, b7, b8, b9, b10⟩ := msg_cells HQ2.out.mg
  go_wp2_with fail
  refine (HF.out _ HQ2.out.bl).mono ?_
  rintro e V3 ⟨rfl, a', hs⟩
  have HS := hide (hs.pre HQ2.out.bl)
  clear hs
  go_wp2_with fail
  go_end0
  exact ⟨rfl, a', HS.out⟩
set_option maxHeartbeats 8000000 in
theorem hear_offered (n l : Int) {b : ByteArray} {m : W.Wr.Ms} {tab : Array Value} (hd : ∀ V, Calls Tryz.prog 57 #[.string b] V fun e w' => e = .returned (.tuple #[.agg (W.msgC m), .int .i64 0]) ∧ Below V.heap.size V w')
    (hdo : ∀ V, Calls Tryz.prog 58 #[.agg #[.int .i64 n, .int .i64 l]] V fun e w' => e = .returned (.agg tab) ∧ Below V.heap.size V w')
    (hix : ∀ V : World, (Instr.index 129 (.agg tab) (.int .i64 m.k)).run Tryz.prog V = .ok (.func (.func 105) #[] #[]) V) {r' : Rn} (hf : ∀ V, Below w.heap.size w V → Calls Tryz.prog 105 #[.pointer (some ⟨a.R, 0, none⟩), .agg (W.msgC m)] V fun e w' => e = .returned (.tuple #[]) ∧ ∃ a', St V a r w' a' r') :
    Calls Tryz.prog 22 #[.pointer (some ⟨a.R, 0, none⟩), .agg #[.int .i64 n, .int .i64 l], .string b] w fun e w' => e = .returned (.tuple #[]) ∧ ∃ a', St w a r w' a' r' := by
  have HD := hide hd
  unfold W.msgC at HD
  have HDo := hide hdo
  have hne : ∀ V : World, (binOp .neq 128 (.func (.func 105) #[] #[]) .nilFunc).run Tryz.prog V = .ok (.bool true) V := fun _ => by kernel_rfl
  have HF := hide hf
  unfold W.msgC at HF
  clear hf
  have HB0 := hide (CH.below_alloc w (.cells #[.int .i64 n, .int .i64 l] 38))
  have HN0 := hide (heap_alloc_new w (.cells #[.int .i64 n, .int .i64 l] 38))
  clear hd hdo
  go_enter Tryz.func22, Tryz.ntmps22
  go_wp2_with fail
  refine (HD.out _).mono ?_
  rintro e w2 ⟨rfl, hb2⟩
  have HQ : Hid (Hq w w2.heap.size n l m (w2.alloc (.cells (W.msgC m) 67))) := hide (by
    have hN := (hb2.block _ (lt_of_block HN0.out)).trans HN0.out
    have hlt := lt_of_block hN
    have hb3 := CH.below_alloc w2 (.cells (W.msgC m) 67)
    have hN3 := (hb3.block _ hlt).trans hN
    exact ⟨cell_of hN3 rfl, cell_of hN3 rfl, heap_alloc_new w2 _, lt_of_block hN3, (HB0.out.trans (hb2.mono HB0.out.size)).trans (hb3.mono (Nat.le_of_lt hlt))⟩)
  clear hb2 HD HB0 HN0
  go_upto_region 3 with fail
  generalize w2.heap.size = X at *
  unfold W.msgC at HQ
  generalize w2.alloc (.cells #[.int .i64 m.k, .int .i64 m.se, .int .i64 m.nu, .int .i64 m.jo, .int .i64 m.ba, .int .i64 m.ix, .int .i64 m.co, .int .i64 m.rc, .int .u64 (m.rb : Int), .string m.tx, .string m.pr] 67) = W at *
  have HQd := hide (HQ.out.up (CH.below_drew (Below.refl _ W)))
  refine wp_region_held_drew (S := fun V => Hq w X n l m V) (by kernel_rfl) (HQd.out) (fun hHeld => ?_)
  refine wpAnyH_take (i := 0) (v := .agg #[.int .i64 n, .int .i64 l]) rfl (by kernel_rfl) (by kernel_rfl) (by kernel_rfl) (fun _ _ _ h => h) (Or.inl ⟨by kernel_rfl, fun w1 hSw => by clear hHeld; have q0 := hSw.b0; have q1 := hSw.b1; obtain ⟨a0, a1, a2, a3, a4, a5, a6, a7, a8, a9, a10⟩ := msg_cells hSw.mg; go_simp⟩) hHeld ?_
  try simp only [Act.put]
  try simp only [List.getElem_toArray]
  try simp only [List.getElem_cons_succ]
  try simp only [List.getElem_cons_zero]
  try simp only [List.setIfInBounds_toArray]
  try simp only [List.set_cons_succ, List.set_cons_zero]
  refine wpAnyH_take (i := 2) (v := .pointer (some ⟨X, 0, none⟩)) rfl (by kernel_rfl) (by kernel_rfl) (by kernel_rfl) (fun _ _ _ h => h) (Or.inl ⟨by kernel_rfl, fun w1 hSw => by clear hHeld; have q0 := hSw.b0; have q1 := hSw.b1; obtain ⟨a0, a1, a2, a3, a4, a5, a6, a7, a8, a9, a10⟩ := msg_cells hSw.mg; go_simp⟩) hHeld ?_
  try simp only [Act.put]
  try simp only [List.getElem_toArray]
  try simp only [List.getElem_cons_succ]
  try simp only [List.getElem_cons_zero]
  try simp only [List.setIfInBounds_toArray]
  try simp only [List.set_cons_succ, List.set_cons_zero]
  refine wpAnyH_take (i := 3) (v := .int .i64 m.k) rfl (by kernel_rfl) (by kernel_rfl) (by kernel_rfl) (fun _ _ _ h => h) (Or.inl ⟨by kernel_rfl, fun w1 hSw => by clear hHeld; have q0 := hSw.b0; have q1 := hSw.b1; obtain ⟨a0, a1, a2, a3, a4, a5, a6, a7, a8, a9, a10⟩ := msg_cells hSw.mg; go_simp⟩) hHeld ?_
  try simp only [Act.put]
  try simp only [List.getElem_toArray]
  try simp only [List.getElem_cons_succ]
  try simp only [List.getElem_cons_zero]
  try simp only [List.setIfInBounds_toArray]
  try simp only [List.set_cons_succ, List.set_cons_zero]
  refine wpAnyH_ready (rs := [1]) (by kernel_rfl) (by simp) ?_
  refine AllReadyH.cons rfl (fun K hK => ?_) AllReadyH.nil
  go_simp
  refine (HDo.out _).mono ?_
  rintro e V2 ⟨rfl, hb2⟩
  have HQ2 := hide (HQd.out.up hb2)
  clear hb2
  refine hK.out _ _ (HQ2.out) (fun hHeld => ?_)
  clear hK K
  try simp only [Act.put]
  try simp only [List.getElem_toArray]
  try simp only [List.getElem_cons_succ]
  try simp only [List.getElem_cons_zero]
  try simp only [List.setIfInBounds_toArray]
  try simp only [List.set_cons_succ, List.set_cons_zero]
  refine wpAnyH_take (i := 4) (v := .func (.func 105) #[] #[]) rfl (by kernel_rfl) (by kernel_rfl) (by kernel_rfl) (fun _ _ _ h => h) (Or.inl ⟨by kernel_rfl, fun w1 hSw => by clear hHeld; have q0 := hSw.b0; have q1 := hSw.b1; obtain ⟨a0, a1, a2, a3, a4, a5, a6, a7, a8, a9, a10⟩ := msg_cells hSw.mg; go_simp⟩) hHeld ?_
  try simp only [Act.put]
  try simp only [List.getElem_toArray]
  try simp only [List.getElem_cons_succ]
  try simp only [List.getElem_cons_zero]
  try simp only [List.setIfInBounds_toArray]
  try simp only [List.set_cons_succ, List.set_cons_zero]
  refine wpAnyH_take (i := 5) (v := .func (.func 105) #[] #[]) rfl (by kernel_rfl) (by kernel_rfl) (by kernel_rfl) (fun _ _ _ h => h) (Or.inl ⟨by kernel_rfl, fun w1 hSw => by clear hHeld; have q0 := hSw.b0; have q1 := hSw.b1; obtain ⟨a0, a1, a2, a3, a4, a5, a6, a7, a8, a9, a10⟩ := msg_cells hSw.mg; go_simp⟩) hHeld ?_
  try simp only [Act.put]
  try simp only [List.getElem_toArray]
  try simp only [List.getElem_cons_succ]
  try simp only [List.getElem_cons_zero]
  try simp only [List.setIfInBounds_toArray]
  try simp only [List.set_cons_succ, List.set_cons_zero]
  refine wpAnyH_done (by kernel_rfl) ?_ _
  clear hHeld
  obtain ⟨b0, b1, b2, b3, b4, b5, b6, b7, b8, b9, b10⟩ := msg_cells HQ2.out.mg
  go_wp2_with fail
  refine (HF.out _ HQ2.out.bl).mono ?_
  rintro e V3 ⟨rfl, a', hs⟩
  have HS := hide (hs.pre HQ2.out.bl)
  clear hs
  go_wp2_with fail
  go_end0
  exact ⟨rfl, a', HS.out⟩
set_option maxHeartbeats 8000000 in
theorem hear_dismissed (n l : Int) {b : ByteArray} {m : W.Wr.Ms} {tab : Array Value} (hd : ∀ V, Calls Tryz.prog 57 #[.string b] V fun e w' => e = .returned (.tuple #[.agg (W.msgC m), .int .i64 0]) ∧ Below V.heap.size V w')
    (hdo : ∀ V, Calls Tryz.prog 58 #[.agg #[.int .i64 n, .int .i64 l]] V fun e w' => e = .returned (.agg tab) ∧ Below V.heap.size V w')
    (hix : ∀ V : World, (Instr.index 129 (.agg tab) (.int .i64 m.k)).run Tryz.prog V = .ok (.func (.func 106) #[] #[]) V) {r' : Rn} (hf : ∀ V, Below w.heap.size w V → Calls Tryz.prog 106 #[.pointer (some ⟨a.R, 0, none⟩), .agg (W.msgC m)] V fun e w' => e = .returned (.tuple #[]) ∧ ∃ a', St V a r w' a' r') :
    Calls Tryz.prog 22 #[.pointer (some ⟨a.R, 0, none⟩), .agg #[.int .i64 n, .int .i64 l], .string b] w fun e w' => e = .returned (.tuple #[]) ∧ ∃ a', St w a r w' a' r' := by
  have HD := hide hd
  unfold W.msgC at HD
  have HDo := hide hdo
  have hne : ∀ V : World, (binOp .neq 128 (.func (.func 106) #[] #[]) .nilFunc).run Tryz.prog V = .ok (.bool true) V := fun _ => by kernel_rfl
  have HF := hide hf
  unfold W.msgC at HF
  clear hf
  have HB0 := hide (CH.below_alloc w (.cells #[.int .i64 n, .int .i64 l] 38))
  have HN0 := hide (heap_alloc_new w (.cells #[.int .i64 n, .int .i64 l] 38))
  clear hd hdo
  go_enter Tryz.func22, Tryz.ntmps22
  go_wp2_with fail
  refine (HD.out _).mono ?_
  rintro e w2 ⟨rfl, hb2⟩
  have HQ : Hid (Hq w w2.heap.size n l m (w2.alloc (.cells (W.msgC m) 67))) := hide (by
    have hN := (hb2.block _ (lt_of_block HN0.out)).trans HN0.out
    have hlt := lt_of_block hN
    have hb3 := CH.below_alloc w2 (.cells (W.msgC m) 67)
    have hN3 := (hb3.block _ hlt).trans hN
    exact ⟨cell_of hN3 rfl, cell_of hN3 rfl, heap_alloc_new w2 _, lt_of_block hN3, (HB0.out.trans (hb2.mono HB0.out.size)).trans (hb3.mono (Nat.le_of_lt hlt))⟩)
  clear hb2 HD HB0 HN0
  go_upto_region 3 with fail
  generalize w2.heap.size = X at *
  unfold W.msgC at HQ
  generalize w2.alloc (.cells #[.int .i64 m.k, .int .i64 m.se, .int .i64 m.nu, .int .i64 m.jo, .int .i64 m.ba, .int .i64 m.ix, .int .i64 m.co, .int .i64 m.rc, .int .u64 (m.rb : Int), .string m.tx, .string m.pr] 67) = W at *
  have HQd := hide (HQ.out.up (CH.below_drew (Below.refl _ W)))
  refine wp_region_held_drew (S := fun V => Hq w X n l m V) (by kernel_rfl) (HQd.out) (fun hHeld => ?_)
  refine wpAnyH_take (i := 0) (v := .agg #[.int .i64 n, .int .i64 l]) rfl (by kernel_rfl) (by kernel_rfl) (by kernel_rfl) (fun _ _ _ h => h) (Or.inl ⟨by kernel_rfl, fun w1 hSw => by clear hHeld; have q0 := hSw.b0; have q1 := hSw.b1; obtain ⟨a0, a1, a2, a3, a4, a5, a6, a7, a8, a9, a10⟩ := msg_cells hSw.mg; go_simp⟩) hHeld ?_
  try simp only [Act.put]
  try simp only [List.getElem_toArray]
  try simp only [List.getElem_cons_succ]
  try simp only [List.getElem_cons_zero]
  try simp only [List.setIfInBounds_toArray]
  try simp only [List.set_cons_succ, List.set_cons_zero]
  refine wpAnyH_take (i := 2) (v := .pointer (some ⟨X, 0, none⟩)) rfl (by kernel_rfl) (by kernel_rfl) (by kernel_rfl) (fun _ _ _ h => h) (Or.inl ⟨by kernel_rfl, fun w1 hSw => by clear hHeld; have q0 := hSw.b0; have q1 := hSw.b1; obtain ⟨a0, a1, a2, a3, a4, a5, a6, a7, a8, a9, a10⟩ := msg_cells hSw.mg; go_simp⟩) hHeld ?_
  try simp only [Act.put]
  try simp only [List.getElem_toArray]
  try simp only [List.getElem_cons_succ]
  try simp only [List.getElem_cons_zero]
  try simp only [List.setIfInBounds_toArray]
  try simp only [List.set_cons_succ, List.set_cons_zero]
  refine wpAnyH_take (i := 3) (v := .int .i64 m.k) rfl (by kernel_rfl) (by kernel_rfl) (by kernel_rfl) (fun _ _ _ h => h) (Or.inl ⟨by kernel_rfl, fun w1 hSw => by clear hHeld; have q0 := hSw.b0; have q1 := hSw.b1; obtain ⟨a0, a1, a2, a3, a4, a5, a6, a7, a8, a9, a10⟩ := msg_cells hSw.mg; go_simp⟩) hHeld ?_
  try simp only [Act.put]
  try simp only [List.getElem_toArray]
  try simp only [List.getElem_cons_succ]
  try simp only [List.getElem_cons_zero]
  try simp only [List.setIfInBounds_toArray]
  try simp only [List.set_cons_succ, List.set_cons_zero]
  refine wpAnyH_ready (rs := [1]) (by kernel_rfl) (by simp) ?_
  refine AllReadyH.cons rfl (fun K hK => ?_) AllReadyH.nil
  go_simp
  refine (HDo.out _).mono ?_
  rintro e V2 ⟨rfl, hb2⟩
  have HQ2 := hide (HQd.out.up hb2)
  clear hb2
  refine hK.out _ _ (HQ2.out) (fun hHeld => ?_)
  clear hK K
  try simp only [Act.put]
  try simp only [List.getElem_toArray]
  try simp only [List.getElem_cons_succ]
  try simp only [List.getElem_cons_zero]
  try simp only [List.setIfInBounds_toArray]
  try simp only [List.set_cons_succ, List.set_cons_zero]
  refine wpAnyH_take (i := 4) (v := .func (.func 106) #[] #[]) rfl (by kernel_rfl) (by kernel_rfl) (by kernel_rfl) (fun _ _ _ h => h) (Or.inl ⟨by kernel_rfl, fun w1 hSw => by clear hHeld; have q0 := hSw.b0; have q1 := hSw.b1; obtain ⟨a0, a1, a2, a3, a4, a5, a6, a7, a8, a9, a10⟩ := msg_cells hSw.mg; go_simp⟩) hHeld ?_
  try simp only [Act.put]
  try simp only [List.getElem_toArray]
  try simp only [List.getElem_cons_succ]
  try simp only [List.getElem_cons_zero]
  try simp only [List.setIfInBounds_toArray]
  try simp only [List.set_cons_succ, List.set_cons_zero]
  refine wpAnyH_take (i := 5) (v := .func (.func 106) #[] #[]) rfl (by kernel_rfl) (by kernel_rfl) (by kernel_rfl) (fun _ _ _ h => h) (Or.inl ⟨by kernel_rfl, fun w1 hSw => by clear hHeld; have q0 := hSw.b0; have q1 := hSw.b1; obtain ⟨a0, a1, a2, a3, a4, a5, a6, a7, a8, a9, a10⟩ := msg_cells hSw.mg; go_simp⟩) hHeld ?_
  try simp only [Act.put]
  try simp only [List.getElem_toArray]
  try simp only [List.getElem_cons_succ]
  try simp only [List.getElem_cons_zero]
  try simp only [List.setIfInBounds_toArray]
  try simp only [List.set_cons_succ, List.set_cons_zero]
  refine wpAnyH_done (by kernel_rfl) ?_ _
  clear hHeld
  obtain ⟨b0, b1, b2, b3, b4, b5, b6, b7, b8, b9, b10⟩ := msg_cells HQ2.out.mg
  go_wp2_with fail
  refine (HF.out _ HQ2.out.bl).mono ?_
  rintro e V3 ⟨rfl, a', hs⟩
  have HS := hide (hs.pre HQ2.out.bl)
  clear hs
  go_wp2_with fail
  go_end0
  exact ⟨rfl, a', HS.out⟩
set_option maxHeartbeats 8000000 in
theorem hear_stored (n l : Int) {b : ByteArray} {m : W.Wr.Ms} {tab : Array Value} (hd : ∀ V, Calls Tryz.prog 57 #[.string b] V fun e w' => e = .returned (.tuple #[.agg (W.msgC m), .int .i64 0]) ∧ Below V.heap.size V w')
    (hdo : ∀ V, Calls Tryz.prog 58 #[.agg #[.int .i64 n, .int .i64 l]] V fun e w' => e = .returned (.agg tab) ∧ Below V.heap.size V w')
    (hix : ∀ V : World, (Instr.index 129 (.agg tab) (.int .i64 m.k)).run Tryz.prog V = .ok (.func (.func 107) #[] #[]) V) {r' : Rn} (hf : ∀ V, Below w.heap.size w V → Calls Tryz.prog 107 #[.pointer (some ⟨a.R, 0, none⟩), .agg (W.msgC m)] V fun e w' => e = .returned (.tuple #[]) ∧ ∃ a', St V a r w' a' r') :
    Calls Tryz.prog 22 #[.pointer (some ⟨a.R, 0, none⟩), .agg #[.int .i64 n, .int .i64 l], .string b] w fun e w' => e = .returned (.tuple #[]) ∧ ∃ a', St w a r w' a' r' := by
  have HD := hide hd
  unfold W.msgC at HD
  have HDo := hide hdo
  have hne : ∀ V : World, (binOp .neq 128 (.func (.func 107) #[] #[]) .nilFunc).run Tryz.prog V = .ok (.bool true) V := fun _ => by kernel_rfl
  have HF := hide hf
  unfold W.msgC at HF
  clear hf
  have HB0 := hide (CH.below_alloc w (.cells #[.int .i64 n, .int .i64 l] 38))
  have HN0 := hide (heap_alloc_new w (.cells #[.int .i64 n, .int .i64 l] 38))
  clear hd hdo
  go_enter Tryz.func22, Tryz.ntmps22
  go_wp2_with fail
  refine (HD.out _).mono ?_
  rintro e w2 ⟨rfl, hb2⟩
  have HQ : Hid (Hq w w2.heap.size n l m (w2.alloc (.cells (W.msgC m) 67))) := hide (by
    have hN := (hb2.block _ (lt_of_block HN0.out)).trans HN0.out
    have hlt := lt_of_block hN
    have hb3 := CH.below_alloc w2 (.cells (W.msgC m) 67)
    have hN3 := (hb3.block _ hlt).trans hN
    exact ⟨cell_of hN3 rfl, cell_of hN3 rfl, heap_alloc_new w2 _, lt_of_block hN3, (HB0.out.trans (hb2.mono HB0.out.size)).trans (hb3.mono (Nat.le_of_lt hlt))⟩)
  clear hb2 HD HB0 HN0
  go_upto_region 3 with fail
  generalize w2.heap.size = X at *
  unfold W.msgC at HQ
  generalize w2.alloc (.cells #[.int .i64 m.k, .int .i64 m.se, .int .i64 m.nu, .int .i64 m.jo, .int .i64 m.ba, .int .i64 m.ix, .int .i64 m.co, .int .i64 m.rc, .int .u64 (m.rb : Int), .string m.tx, .string m.pr] 67) = W at *
  have HQd := hide (HQ.out.up (CH.below_drew (Below.refl _ W)))
  refine wp_region_held_drew (S := fun V => Hq w X n l m V) (by kernel_rfl) (HQd.out) (fun hHeld => ?_)
  refine wpAnyH_take (i := 0) (v := .agg #[.int .i64 n, .int .i64 l]) rfl (by kernel_rfl) (by kernel_rfl) (by kernel_rfl) (fun _ _ _ h => h) (Or.inl ⟨by kernel_rfl, fun w1 hSw => by clear hHeld; have q0 := hSw.b0; have q1 := hSw.b1; obtain ⟨a0, a1, a2, a3, a4, a5, a6, a7, a8, a9, a10⟩ := msg_cells hSw.mg; go_simp⟩) hHeld ?_
  try simp only [Act.put]
  try simp only [List.getElem_toArray]
  try simp only [List.getElem_cons_succ]
  try simp only [List.getElem_cons_zero]
  try simp only [List.setIfInBounds_toArray]
  try simp only [List.set_cons_succ, List.set_cons_zero]
  refine wpAnyH_take (i := 2) (v := .pointer (some ⟨X, 0, none⟩)) rfl (by kernel_rfl) (by kernel_rfl) (by kernel_rfl) (fun _ _ _ h => h) (Or.inl ⟨by kernel_rfl, fun w1 hSw => by clear hHeld; have q0 := hSw.b0; have q1 := hSw.b1; obtain ⟨a0, a1, a2, a3, a4, a5, a6, a7, a8, a9, a10⟩ := msg_cells hSw.mg; go_simp⟩) hHeld ?_
  try simp only [Act.put]
  try simp only [List.getElem_toArray]
  try simp only [List.getElem_cons_succ]
  try simp only [List.getElem_cons_zero]
  try simp only [List.setIfInBounds_toArray]
  try simp only [List.set_cons_succ, List.set_cons_zero]
  refine wpAnyH_take (i := 3) (v := .int .i64 m.k) rfl (by kernel_rfl) (by kernel_rfl) (by kernel_rfl) (fun _ _ _ h => h) (Or.inl ⟨by kernel_rfl, fun w1 hSw => by clear hHeld; have q0 := hSw.b0; have q1 := hSw.b1; obtain ⟨a0, a1, a2, a3, a4, a5, a6, a7, a8, a9, a10⟩ := msg_cells hSw.mg; go_simp⟩) hHeld ?_
  try simp only [Act.put]
  try simp only [List.getElem_toArray]
  try simp only [List.getElem_cons_succ]
  try simp only [List.getElem_cons_zero]
  try simp only [List.setIfInBounds_toArray]
  try simp only [List.set_cons_succ, List.set_cons_zero]
  refine wpAnyH_ready (rs := [1]) (by kernel_rfl) (by simp) ?_
  refine AllReadyH.cons rfl (fun K hK => ?_) AllReadyH.nil
  go_simp
  refine (HDo.out _).mono ?_
  rintro e V2 ⟨rfl, hb2⟩
  have HQ2 := hide (HQd.out.up hb2)
  clear hb2
  refine hK.out _ _ (HQ2.out) (fun hHeld => ?_)
  clear hK K
  try simp only [Act.put]
  try simp only [List.getElem_toArray]
  try simp only [List.getElem_cons_succ]
  try simp only [List.getElem_cons_zero]
  try simp only [List.setIfInBounds_toArray]
  try simp only [List.set_cons_succ, List.set_cons_zero]
  refine wpAnyH_take (i := 4) (v := .func (.func 107) #[] #[]) rfl (by kernel_rfl) (by kernel_rfl) (by kernel_rfl) (fun _ _ _ h => h) (Or.inl ⟨by kernel_rfl, fun w1 hSw => by clear hHeld; have q0 := hSw.b0; have q1 := hSw.b1; obtain ⟨a0, a1, a2, a3, a4, a5, a6, a7, a8, a9, a10⟩ := msg_cells hSw.mg; go_simp⟩) hHeld ?_
  try simp only [Act.put]
  try simp only [List.getElem_toArray]
  try simp only [List.getElem_cons_succ]
  try simp only [List.getElem_cons_zero]
  try simp only [List.setIfInBounds_toArray]
  try simp only [List.set_cons_succ, List.set_cons_zero]
  refine wpAnyH_take (i := 5) (v := .func (.func 107) #[] #[]) rfl (by kernel_rfl) (by kernel_rfl) (by kernel_rfl) (fun _ _ _ h => h) (Or.inl ⟨by kernel_rfl, fun w1 hSw => by clear hHeld; have q0 := hSw.b0; have q1 := hSw.b1; obtain ⟨a0, a1, a2, a3, a4, a5, a6, a7, a8, a9, a10⟩ := msg_cells hSw.mg; go_simp⟩) hHeld ?_
  try simp only [Act.put]
  try simp only [List.getElem_toArray]
  try simp only [List.getElem_cons_succ]
  try simp only [List.getElem_cons_zero]
  try simp only [List.setIfInBounds_toArray]
  try simp only [List.set_cons_succ, List.set_cons_zero]
  refine wpAnyH_done (by kernel_rfl) ?_ _
  clear hHeld
  obtain ⟨b0, b1, b2, b3, b4, b5, b6, b7, b8, b9, b10⟩ := msg_cells HQ2.out.mg
  go_wp2_with fail
  refine (HF.out _ HQ2.out.bl).mono ?_
  rintro e V3 ⟨rfl, a', hs⟩
  have HS := hide (hs.pre HQ2.out.bl)
  clear hs
  go_wp2_with fail
  go_end0
  exact ⟨rfl, a', HS.out⟩
set_option maxHeartbeats 8000000 in
theorem hear_admitted (n l : Int) {b : ByteArray} {m : W.Wr.Ms} {tab : Array Value} (hd : ∀ V, Calls Tryz.prog 57 #[.string b] V fun e w' => e = .returned (.tuple #[.agg (W.msgC m), .int .i64 0]) ∧ Below V.heap.size V w')
    (hdo : ∀ V, Calls Tryz.prog 58 #[.agg #[.int .i64 n, .int .i64 l]] V fun e w' => e = .returned (.agg tab) ∧ Below V.heap.size V w')
    (hix : ∀ V : World, (Instr.index 129 (.agg tab) (.int .i64 m.k)).run Tryz.prog V = .ok (.func (.func 108) #[] #[]) V) {r' : Rn} (hf : ∀ V, Below w.heap.size w V → Calls Tryz.prog 108 #[.pointer (some ⟨a.R, 0, none⟩), .agg (W.msgC m)] V fun e w' => e = .returned (.tuple #[]) ∧ ∃ a', St V a r w' a' r') :
    Calls Tryz.prog 22 #[.pointer (some ⟨a.R, 0, none⟩), .agg #[.int .i64 n, .int .i64 l], .string b] w fun e w' => e = .returned (.tuple #[]) ∧ ∃ a', St w a r w' a' r' := by
  have HD := hide hd
  unfold W.msgC at HD
  have HDo := hide hdo
  have hne : ∀ V : World, (binOp .neq 128 (.func (.func 108) #[] #[]) .nilFunc).run Tryz.prog V = .ok (.bool true) V := fun _ => by kernel_rfl
  have HF := hide hf
  unfold W.msgC at HF
  clear hf
  have HB0 := hide (CH.below_alloc w (.cells #[.int .i64 n, .int .i64 l] 38))
  have HN0 := hide (heap_alloc_new w (.cells #[.int .i64 n, .int .i64 l] 38))
  clear hd hdo
  go_enter Tryz.func22, Tryz.ntmps22
  go_wp2_with fail
  refine (HD.out _).mono ?_
  rintro e w2 ⟨rfl, hb2⟩
  have HQ : Hid (Hq w w2.heap.size n l m (w2.alloc (.cells (W.msgC m) 67))) := hide (by
    have hN := (hb2.block _ (lt_of_block HN0.out)).trans HN0.out
    have hlt := lt_of_block hN
    have hb3 := CH.below_alloc w2 (.cells (W.msgC m) 67)
    have hN3 := (hb3.block _ hlt).trans hN
    exact ⟨cell_of hN3 rfl, cell_of hN3 rfl, heap_alloc_new w2 _, lt_of_block hN3, (HB0.out.trans (hb2.mono HB0.out.size)).trans (hb3.mono (Nat.le_of_lt hlt))⟩)
  clear hb2 HD HB0 HN0
  go_upto_region 3 with fail
  generalize w2.heap.size = X at *
  unfold W.msgC at HQ
  generalize w2.alloc (.cells #[.int .i64 m.k, .int .i64 m.se, .int .i64 m.nu, .int .i64 m.jo, .int .i64 m.ba, .int .i64 m.ix, .int .i64 m.co, .int .i64 m.rc, .int .u64 (m.rb : Int), .string m.tx, .string m.pr] 67) = W at *
  have HQd := hide (HQ.out.up (CH.below_drew (Below.refl _ W)))
  refine wp_region_held_drew (S := fun V => Hq w X n l m V) (by kernel_rfl) (HQd.out) (fun hHeld => ?_)
  refine wpAnyH_take (i := 0) (v := .agg #[.int .i64 n, .int .i64 l]) rfl (by kernel_rfl) (by kernel_rfl) (by kernel_rfl) (fun _ _ _ h => h) (Or.inl ⟨by kernel_rfl, fun w1 hSw => by clear hHeld; have q0 := hSw.b0; have q1 := hSw.b1; obtain ⟨a0, a1, a2, a3, a4, a5, a6, a7, a8, a9, a10⟩ := msg_cells hSw.mg; go_simp⟩) hHeld ?_
  try simp only [Act.put]
  try simp only [List.getElem_toArray]
  try simp only [List.getElem_cons_succ]
  try simp only [List.getElem_cons_zero]
  try simp only [List.setIfInBounds_toArray]
  try simp only [List.set_cons_succ, List.set_cons_zero]
  refine wpAnyH_take (i := 2) (v := .pointer (some ⟨X, 0, none⟩)) rfl (by kernel_rfl) (by kernel_rfl) (by kernel_rfl) (fun _ _ _ h => h) (Or.inl ⟨by kernel_rfl, fun w1 hSw => by clear hHeld; have q0 := hSw.b0; have q1 := hSw.b1; obtain ⟨a0, a1, a2, a3, a4, a5, a6, a7, a8, a9, a10⟩ := msg_cells hSw.mg; go_simp⟩) hHeld ?_
  try simp only [Act.put]
  try simp only [List.getElem_toArray]
  try simp only [List.getElem_cons_succ]
  try simp only [List.getElem_cons_zero]
  try simp only [List.setIfInBounds_toArray]
  try simp only [List.set_cons_succ, List.set_cons_zero]
  refine wpAnyH_take (i := 3) (v := .int .i64 m.k) rfl (by kernel_rfl) (by kernel_rfl) (by kernel_rfl) (fun _ _ _ h => h) (Or.inl ⟨by kernel_rfl, fun w1 hSw => by clear hHeld; have q0 := hSw.b0; have q1 := hSw.b1; obtain ⟨a0, a1, a2, a3, a4, a5, a6, a7, a8, a9, a10⟩ := msg_cells hSw.mg; go_simp⟩) hHeld ?_
  try simp only [Act.put]
  try simp only [List.getElem_toArray]
  try simp only [List.getElem_cons_succ]
  try simp only [List.getElem_cons_zero]
  try simp only [List.setIfInBounds_toArray]
  try simp only [List.set_cons_succ, List.set_cons_zero]
  refine wpAnyH_ready (rs := [1]) (by kernel_rfl) (by simp) ?_
  refine AllReadyH.cons rfl (fun K hK => ?_) AllReadyH.nil
  go_simp
  refine (HDo.out _).mono ?_
  rintro e V2 ⟨rfl, hb2⟩
  have HQ2 := hide (HQd.out.up hb2)
  clear hb2
  refine hK.out _ _ (HQ2.out) (fun hHeld => ?_)
  clear hK K
  try simp only [Act.put]
  try simp only [List.getElem_toArray]
  try simp only [List.getElem_cons_succ]
  try simp only [List.getElem_cons_zero]
  try simp only [List.setIfInBounds_toArray]
  try simp only [List.set_cons_succ, List.set_cons_zero]
  refine wpAnyH_take (i := 4) (v := .func (.func 108) #[] #[]) rfl (by kernel_rfl) (by kernel_rfl) (by kernel_rfl) (fun _ _ _ h => h) (Or.inl ⟨by kernel_rfl, fun w1 hSw => by clear hHeld; have q0 := hSw.b0; have q1 := hSw.b1; obtain ⟨a0, a1, a2, a3, a4, a5, a6, a7, a8, a9, a10⟩ := msg_cells hSw.mg; go_simp⟩) hHeld ?_
  try simp only [Act.put]
  try simp only [List.getElem_toArray]
  try simp only [List.getElem_cons_succ]
  try simp only [List.getElem_cons_zero]
  try simp only [List.setIfInBounds_toArray]
  try simp only [List.set_cons_succ, List.set_cons_zero]
  refine wpAnyH_take (i := 5) (v := .func (.func 108) #[] #[]) rfl (by kernel_rfl) (by kernel_rfl) (by kernel_rfl) (fun _ _ _ h => h) (Or.inl ⟨by kernel_rfl, fun w1 hSw => by clear hHeld; have q0 := hSw.b0; have q1 := hSw.b1; obtain ⟨a0, a1, a2, a3, a4, a5, a6, a7, a8, a9, a10⟩ := msg_cells hSw.mg; go_simp⟩) hHeld ?_
  try simp only [Act.put]
  try simp only [List.getElem_toArray]
  try simp only [List.getElem_cons_succ]
  try simp only [List.getElem_cons_zero]
  try simp only [List.setIfInBounds_toArray]
  try simp only [List.set_cons_succ, List.set_cons_zero]
  refine wpAnyH_done (by kernel_rfl) ?_ _
  clear hHeld
  obtain ⟨b0, b1, b2, b3, b4, b5, b6, b7, b8, b9, b10⟩ := msg_cells HQ2.out.mg
  go_wp2_with fail
  refine (HF.out _ HQ2.out.bl).mono ?_
  rintro e V3 ⟨rfl, a', hs⟩
  have HS := hide (hs.pre HQ2.out.bl)
  clear hs
  go_wp2_with fail
  go_end0
  exact ⟨rfl, a', HS.out⟩
set_option maxHeartbeats 8000000 in
theorem hear_refused (n l : Int) {b : ByteArray} {m : W.Wr.Ms} {tab : Array Value} (hd : ∀ V, Calls Tryz.prog 57 #[.string b] V fun e w' => e = .returned (.tuple #[.agg (W.msgC m), .int .i64 0]) ∧ Below V.heap.size V w')
    (hdo : ∀ V, Calls Tryz.prog 58 #[.agg #[.int .i64 n, .int .i64 l]] V fun e w' => e = .returned (.agg tab) ∧ Below V.heap.size V w')
    (hix : ∀ V : World, (Instr.index 129 (.agg tab) (.int .i64 m.k)).run Tryz.prog V = .ok (.func (.func 109) #[] #[]) V) {r' : Rn} (hf : ∀ V, Below w.heap.size w V → Calls Tryz.prog 109 #[.pointer (some ⟨a.R, 0, none⟩), .agg (W.msgC m)] V fun e w' => e = .returned (.tuple #[]) ∧ ∃ a', St V a r w' a' r') :
    Calls Tryz.prog 22 #[.pointer (some ⟨a.R, 0, none⟩), .agg #[.int .i64 n, .int .i64 l], .string b] w fun e w' => e = .returned (.tuple #[]) ∧ ∃ a', St w a r w' a' r' := by
  have HD := hide hd
  unfold W.msgC at HD
  have HDo := hide hdo
  have hne : ∀ V : World, (binOp .neq 128 (.func (.func 109) #[] #[]) .nilFunc).run Tryz.prog V = .ok (.bool true) V := fun _ => by kernel_rfl
  have HF := hide hf
  unfold W.msgC at HF
  clear hf
  have HB0 := hide (CH.below_alloc w (.cells #[.int .i64 n, .int .i64 l] 38))
  have HN0 := hide (heap_alloc_new w (.cells #[.int .i64 n, .int .i64 l] 38))
  clear hd hdo
  go_enter Tryz.func22, Tryz.ntmps22
  go_wp2_with fail
  refine (HD.out _).mono ?_
  rintro e w2 ⟨rfl, hb2⟩
  have HQ : Hid (Hq w w2.heap.size n l m (w2.alloc (.cells (W.msgC m) 67))) := hide (by
    have hN := (hb2.block _ (lt_of_block HN0.out)).trans HN0.out
    have hlt := lt_of_block hN
    have hb3 := CH.below_alloc w2 (.cells (W.msgC m) 67)
    have hN3 := (hb3.block _ hlt).trans hN
    exact ⟨cell_of hN3 rfl, cell_of hN3 rfl, heap_alloc_new w2 _, lt_of_block hN3, (HB0.out.trans (hb2.mono HB0.out.size)).trans (hb3.mono (Nat.le_of_lt hlt))⟩)
  clear hb2 HD HB0 HN0
  go_upto_region 3 with fail
  generalize w2.heap.size = X at *
  unfold W.msgC at HQ
  generalize w2.alloc (.cells #[.int .i64 m.k, .int .i64 m.se, .int .i64 m.nu, .int .i64 m.jo, .int .i64 m.ba, .int .i64 m.ix, .int .i64 m.co, .int .i64 m.rc, .int .u64 (m.rb : Int), .string m.tx, .string m.pr] 67) = W at *
  have HQd := hide (HQ.out.up (CH.below_drew (Below.refl _ W)))
  refine wp_region_held_drew (S := fun V => Hq w X n l m V) (by kernel_rfl) (HQd.out) (fun hHeld => ?_)
  refine wpAnyH_take (i := 0) (v := .agg #[.int .i64 n, .int .i64 l]) rfl (by kernel_rfl) (by kernel_rfl) (by kernel_rfl) (fun _ _ _ h => h) (Or.inl ⟨by kernel_rfl, fun w1 hSw => by clear hHeld; have q0 := hSw.b0; have q1 := hSw.b1; obtain ⟨a0, a1, a2, a3, a4, a5, a6, a7, a8, a9, a10⟩ := msg_cells hSw.mg; go_simp⟩) hHeld ?_
  try simp only [Act.put]
  try simp only [List.getElem_toArray]
  try simp only [List.getElem_cons_succ]
  try simp only [List.getElem_cons_zero]
  try simp only [List.setIfInBounds_toArray]
  try simp only [List.set_cons_succ, List.set_cons_zero]
  refine wpAnyH_take (i := 2) (v := .pointer (some ⟨X, 0, none⟩)) rfl (by kernel_rfl) (by kernel_rfl) (by kernel_rfl) (fun _ _ _ h => h) (Or.inl ⟨by kernel_rfl, fun w1 hSw => by clear hHeld; have q0 := hSw.b0; have q1 := hSw.b1; obtain ⟨a0, a1, a2, a3, a4, a5, a6, a7, a8, a9, a10⟩ := msg_cells hSw.mg; go_simp⟩) hHeld ?_
  try simp only [Act.put]
  try simp only [List.getElem_toArray]
  try simp only [List.getElem_cons_succ]
  try simp only [List.getElem_cons_zero]
  try simp only [List.setIfInBounds_toArray]
  try simp only [List.set_cons_succ, List.set_cons_zero]
  refine wpAnyH_take (i := 3) (v := .int .i64 m.k) rfl (by kernel_rfl) (by kernel_rfl) (by kernel_rfl) (fun _ _ _ h => h) (Or.inl ⟨by kernel_rfl, fun w1 hSw => by clear hHeld; have q0 := hSw.b0; have q1 := hSw.b1; obtain ⟨a0, a1, a2, a3, a4, a5, a6, a7, a8, a9, a10⟩ := msg_cells hSw.mg; go_simp⟩) hHeld ?_
  try simp only [Act.put]
  try simp only [List.getElem_toArray]
  try simp only [List.getElem_cons_succ]
  try simp only [List.getElem_cons_zero]
  try simp only [List.setIfInBounds_toArray]
  try simp only [List.set_cons_succ, List.set_cons_zero]
  refine wpAnyH_ready (rs := [1]) (by kernel_rfl) (by simp) ?_
  refine AllReadyH.cons rfl (fun K hK => ?_) AllReadyH.nil
  go_simp
  refine (HDo.out _).mono ?_
  rintro e V2 ⟨rfl, hb2⟩
  have HQ2 := hide (HQd.out.up hb2)
  clear hb2
  refine hK.out _ _ (HQ2.out) (fun hHeld => ?_)
  clear hK K
  try simp only [Act.put]
  try simp only [List.getElem_toArray]
  try simp only [List.getElem_cons_succ]
  try simp only [List.getElem_cons_zero]
  try simp only [List.setIfInBounds_toArray]
  try simp only [List.set_cons_succ, List.set_cons_zero]
  refine wpAnyH_take (i := 4) (v := .func (.func 109) #[] #[]) rfl (by kernel_rfl) (by kernel_rfl) (by kernel_rfl) (fun _ _ _ h => h) (Or.inl ⟨by kernel_rfl, fun w1 hSw => by clear hHeld; have q0 := hSw.b0; have q1 := hSw.b1; obtain ⟨a0, a1, a2, a3, a4, a5, a6, a7, a8, a9, a10⟩ := msg_cells hSw.mg; go_simp⟩) hHeld ?_
  try simp only [Act.put]
  try simp only [List.getElem_toArray]
  try simp only [List.getElem_cons_succ]
  try simp only [List.getElem_cons_zero]
  try simp only [List.setIfInBounds_toArray]
  try simp only [List.set_cons_succ, List.set_cons_zero]
  refine wpAnyH_take (i := 5) (v := .func (.func 109) #[] #[]) rfl (by kernel_rfl) (by kernel_rfl) (by kernel_rfl) (fun _ _ _ h => h) (Or.inl ⟨by kernel_rfl, fun w1 hSw => by clear hHeld; have q0 := hSw.b0; have q1 := hSw.b1; obtain ⟨a0, a1, a2, a3, a4, a5, a6, a7, a8, a9, a10⟩ := msg_cells hSw.mg; go_simp⟩) hHeld ?_
  try simp only [Act.put]
  try simp only [List.getElem_toArray]
  try simp only [List.getElem_cons_succ]
  try simp only [List.getElem_cons_zero]
  try simp only [List.setIfInBounds_toArray]
  try simp only [List.set_cons_succ, List.set_cons_zero]
  refine wpAnyH_done (by kernel_rfl) ?_ _
  clear hHeld
  obtain ⟨b0, b1, b2, b3, b4, b5, b6, b7, b8, b9, b10⟩ := msg_cells HQ2.out.mg
  go_wp2_with fail
  refine (HF.out _ HQ2.out.bl).mono ?_
  rintro e V3 ⟨rfl, a', hs⟩
  have HS := hide (hs.pre HQ2.out.bl)
  clear hs
  go_wp2_with fail
  go_end0
  exact ⟨rfl, a', HS.out⟩
end
end Go.Proofs.YtkfnedhllfdghaaGreatDoor.RN
end

section
namespace Go.Proofs.YtkfnedhllfdghaaGreatDoor.RN
open Go.RowKit Go.Shelf
set_option maxRecDepth 20000

/-- what a message does, by whom it is from -/
def Rn.act (r : Rn) (m : W.Wr.Ms) (n l : Int) : Rn :=
  if n = 0 ∧ l = 0 then
    if m.k = 9 then r.offd m else if m.k = 12 ∨ m.k = 13 then r.dism m else if m.k = 14 then r.stor m else if m.k = 7 ∨ m.k = 8 ∨ m.k = 10 ∨ m.k = 11 then { r with c := (r.c.hear (smOf m)).c } else r
  else if n = 1 ∧ l = 0 then (if m.k = 15 then r.admt m else if m.k = 16 then r.refd m else r) else r
/-- behind bytes that came -/
def Rn.hr (r : Rn) (n l : Int) (b : ByteArray) : Rn := if (W.Wr.decode W.limP b).2 = 0 then r.act (W.Wr.decode W.limP b).1 n l else r
theorem hear_rb {c : SE.Cl} (h : c.m.rb < 18446744073709551616) (m : SE.Sm) : (c.hear m).c.m.rb < 18446744073709551616 := by
  unfold SE.Cl.hear
  split
  · show (0 : Nat) < _; decide
  · split
    · show (0 : Nat) < _; decide
    · split
      · show (0 : Nat) < _; decide
      · exact h
theorem Rn.call_ok {r : Rn} (h : r.ok) {m : W.Wr.Ms} (hm : m.se ≤ 9223372036854775807) : ({ r with c := (r.c.hear (smOf m)).c } : Rn).ok :=
  ⟨h.s8, h.l1, h.w1, h.w8, h.r1, h.r2, h.q1, h.q2, SE.Cl.hear_ok h.c hm, hear_rb h.cb _, h.j⟩
theorem Rn.drop_ok {r : Rn} (h : r.ok) : ({ r with j := none } : Rn).ok := ⟨h.s8, h.l1, h.w1, h.w8, h.r1, h.r2, h.q1, h.q2, h.c, h.cb, fun j hj => by cases hj⟩
theorem Rn.job_ok {r : Rn} (h : r.ok) {j : Jb} (hj : j.ok) : ({ r with j := some j } : Rn).ok := ⟨h.s8, h.l1, h.w1, h.w8, h.r1, h.r2, h.q1, h.q2, h.c, h.cb, fun k hk => by cases hk; exact hj⟩
theorem Rn.act_ok {r : Rn} (h : r.ok) {m : W.Wr.Ms} (hm : m.se ≤ 9223372036854775807) (n l : Int) : (r.act m n l).ok ∧ (r.act m n l).T = r.T := by
  have hc := Rn.call_ok h hm
  unfold Rn.act
  split
  · split
    · unfold Rn.offd
      split
      · rename_i h1
        exact ⟨Rn.job_ok hc (newJ_ok ⟨h.w1, h.w8⟩ ⟨h.r1, h.r2⟩ (uf_unpack m.pr) h1.2.2), rfl⟩
      · exact ⟨hc, rfl⟩
    · split
      · unfold Rn.dism
        split
        · exact ⟨Rn.drop_ok hc, rfl⟩
        · exact ⟨hc, rfl⟩
      · split
        · unfold Rn.stor
          split
          · exact ⟨h, rfl⟩
          · rename_i j hj
            split
            · have := h.j j hj
              exact ⟨Rn.job_ok h ⟨this.p, this.m, CH.Sn.ack_ok this.lg m.co, this.ar⟩, rfl⟩
            · exact ⟨h, rfl⟩
        · split
          · exact ⟨hc, rfl⟩
          · exact ⟨h, rfl⟩
  · split
    · split
      · unfold Rn.admt
        split
        · exact ⟨h, rfl⟩
        · rename_i j hj
          split
          · have := h.j j hj
            exact ⟨Rn.job_ok h ⟨this.p, this.m, this.lg, CH.Sn.ack_ok this.ar m.co⟩, rfl⟩
          · exact ⟨h, rfl⟩
      · split
        · unfold Rn.refd
          split
          · exact ⟨Rn.drop_ok h, rfl⟩
          · exact ⟨h, rfl⟩
        · exact ⟨h, rfl⟩
    · exact ⟨h, rfl⟩
/-- a message that may be: its numbers are no more than 2 to the 40th, its kind is 1 to 16 -/
theorem ms_small {b : ByteArray} (h : (W.Wr.decode W.limP b).2 = 0) : (1 ≤ (W.Wr.decode W.limP b).1.k ∧ (W.Wr.decode W.limP b).1.k ≤ 16) ∧ (W.Wr.decode W.limP b).1.se ≤ 9223372036854775807 ∧ (-9223372036854775808 ≤ (W.Wr.decode W.limP b).1.co ∧ (W.Wr.decode W.limP b).1.co ≤ 9223372036854775807) := by
  have hc := (W.Wr.decode_form (lim := W.limP) (b := b) (m := (W.Wr.decode W.limP b).1) (Prod.ext rfl h)).2.1
  obtain ⟨hk, _, h1, h2⟩ := (W.Wr.check_iff _).mp hc
  generalize (W.Wr.decode W.limP b).1 = m at *
  refine ⟨hk, ?_, ?_⟩
  · by_cases hl : W.Wr.L.S ∈ W.Wr.letters m.k
    · have h3 := h1 _ hl
      unfold W.Wr.may at h3
      rw [Bool.and_eq_true] at h3
      have h4 : (1 : Int) ≤ m.se ∧ m.se ≤ 1099511627776 := of_decide_eq_true h3.1
      omega
    · have h3 : m.se = 0 := congrArg W.Wr.V.i (h2 _ hl)
      omega
  · by_cases hl : W.Wr.L.C ∈ W.Wr.letters m.k
    · have h3 := h1 _ hl
      unfold W.Wr.may at h3
      rw [Bool.and_eq_true] at h3
      have h4 : (0 : Int) ≤ m.co ∧ m.co ≤ (if m.k = 15 then 17 else 32) := of_decide_eq_true h3.1
      have h5 := h4.2
      split at h5 <;> omega
    · have h3 : m.co = 0 := congrArg W.Wr.V.i (h2 _ hl)
      omega
-- IX
theorem ix0_0 : ∀ V : World, (Instr.index 129 (.agg tab0) (.int .i64 0)).run Tryz.prog V = .ok (.nilFunc) V := fun V => by kernel_rfl
theorem ix0_1 : ∀ V : World, (Instr.index 129 (.agg tab0) (.int .i64 1)).run Tryz.prog V = .ok (.nilFunc) V := fun V => by kernel_rfl
theorem ix0_2 : ∀ V : World, (Instr.index 129 (.agg tab0) (.int .i64 2)).run Tryz.prog V = .ok (.nilFunc) V := fun V => by kernel_rfl
theorem ix0_3 : ∀ V : World, (Instr.index 129 (.agg tab0) (.int .i64 3)).run Tryz.prog V = .ok (.nilFunc) V := fun V => by kernel_rfl
theorem ix0_4 : ∀ V : World, (Instr.index 129 (.agg tab0) (.int .i64 4)).run Tryz.prog V = .ok (.nilFunc) V := fun V => by kernel_rfl
theorem ix0_5 : ∀ V : World, (Instr.index 129 (.agg tab0) (.int .i64 5)).run Tryz.prog V = .ok (.nilFunc) V := fun V => by kernel_rfl
theorem ix0_6 : ∀ V : World, (Instr.index 129 (.agg tab0) (.int .i64 6)).run Tryz.prog V = .ok (.nilFunc) V := fun V => by kernel_rfl
theorem ix0_7 : ∀ V : World, (Instr.index 129 (.agg tab0) (.int .i64 7)).run Tryz.prog V = .ok (.func (.func 104) #[] #[]) V := fun V => by kernel_rfl
theorem ix0_8 : ∀ V : World, (Instr.index 129 (.agg tab0) (.int .i64 8)).run Tryz.prog V = .ok (.func (.func 104) #[] #[]) V := fun V => by kernel_rfl
theorem ix0_9 : ∀ V : World, (Instr.index 129 (.agg tab0) (.int .i64 9)).run Tryz.prog V = .ok (.func (.func 105) #[] #[]) V := fun V => by kernel_rfl
theorem ix0_10 : ∀ V : World, (Instr.index 129 (.agg tab0) (.int .i64 10)).run Tryz.prog V = .ok (.func (.func 104) #[] #[]) V := fun V => by kernel_rfl
theorem ix0_11 : ∀ V : World, (Instr.index 129 (.agg tab0) (.int .i64 11)).run Tryz.prog V = .ok (.func (.func 104) #[] #[]) V := fun V => by kernel_rfl
theorem ix0_12 : ∀ V : World, (Instr.index 129 (.agg tab0) (.int .i64 12)).run Tryz.prog V = .ok (.func (.func 106) #[] #[]) V := fun V => by kernel_rfl
theorem ix0_13 : ∀ V : World, (Instr.index 129 (.agg tab0) (.int .i64 13)).run Tryz.prog V = .ok (.func (.func 106) #[] #[]) V := fun V => by kernel_rfl
theorem ix0_14 : ∀ V : World, (Instr.index 129 (.agg tab0) (.int .i64 14)).run Tryz.prog V = .ok (.func (.func 107) #[] #[]) V := fun V => by kernel_rfl
theorem ix0_15 : ∀ V : World, (Instr.index 129 (.agg tab0) (.int .i64 15)).run Tryz.prog V = .ok (.nilFunc) V := fun V => by kernel_rfl
theorem ix0_16 : ∀ V : World, (Instr.index 129 (.agg tab0) (.int .i64 16)).run Tryz.prog V = .ok (.nilFunc) V := fun V => by kernel_rfl
theorem ix1_0 : ∀ V : World, (Instr.index 129 (.agg tab1) (.int .i64 0)).run Tryz.prog V = .ok (.nilFunc) V := fun V => by kernel_rfl
theorem ix1_1 : ∀ V : World, (Instr.index 129 (.agg tab1) (.int .i64 1)).run Tryz.prog V = .ok (.nilFunc) V := fun V => by kernel_rfl
theorem ix1_2 : ∀ V : World, (Instr.index 129 (.agg tab1) (.int .i64 2)).run Tryz.prog V = .ok (.nilFunc) V := fun V => by kernel_rfl
theorem ix1_3 : ∀ V : World, (Instr.index 129 (.agg tab1) (.int .i64 3)).run Tryz.prog V = .ok (.nilFunc) V := fun V => by kernel_rfl
theorem ix1_4 : ∀ V : World, (Instr.index 129 (.agg tab1) (.int .i64 4)).run Tryz.prog V = .ok (.nilFunc) V := fun V => by kernel_rfl
theorem ix1_5 : ∀ V : World, (Instr.index 129 (.agg tab1) (.int .i64 5)).run Tryz.prog V = .ok (.nilFunc) V := fun V => by kernel_rfl
theorem ix1_6 : ∀ V : World, (Instr.index 129 (.agg tab1) (.int .i64 6)).run Tryz.prog V = .ok (.nilFunc) V := fun V => by kernel_rfl
theorem ix1_7 : ∀ V : World, (Instr.index 129 (.agg tab1) (.int .i64 7)).run Tryz.prog V = .ok (.nilFunc) V := fun V => by kernel_rfl
theorem ix1_8 : ∀ V : World, (Instr.index 129 (.agg tab1) (.int .i64 8)).run Tryz.prog V = .ok (.nilFunc) V := fun V => by kernel_rfl
theorem ix1_9 : ∀ V : World, (Instr.index 129 (.agg tab1) (.int .i64 9)).run Tryz.prog V = .ok (.nilFunc) V := fun V => by kernel_rfl
theorem ix1_10 : ∀ V : World, (Instr.index 129 (.agg tab1) (.int .i64 10)).run Tryz.prog V = .ok (.nilFunc) V := fun V => by kernel_rfl
theorem ix1_11 : ∀ V : World, (Instr.index 129 (.agg tab1) (.int .i64 11)).run Tryz.prog V = .ok (.nilFunc) V := fun V => by kernel_rfl
theorem ix1_12 : ∀ V : World, (Instr.index 129 (.agg tab1) (.int .i64 12)).run Tryz.prog V = .ok (.nilFunc) V := fun V => by kernel_rfl
theorem ix1_13 : ∀ V : World, (Instr.index 129 (.agg tab1) (.int .i64 13)).run Tryz.prog V = .ok (.nilFunc) V := fun V => by kernel_rfl
theorem ix1_14 : ∀ V : World, (Instr.index 129 (.agg tab1) (.int .i64 14)).run Tryz.prog V = .ok (.nilFunc) V := fun V => by kernel_rfl
theorem ix1_15 : ∀ V : World, (Instr.index 129 (.agg tab1) (.int .i64 15)).run Tryz.prog V = .ok (.func (.func 108) #[] #[]) V := fun V => by kernel_rfl
theorem ix1_16 : ∀ V : World, (Instr.index 129 (.agg tab1) (.int .i64 16)).run Tryz.prog V = .ok (.func (.func 109) #[] #[]) V := fun V => by kernel_rfl
theorem ix2_0 : ∀ V : World, (Instr.index 129 (.agg tab2) (.int .i64 0)).run Tryz.prog V = .ok (.nilFunc) V := fun V => by kernel_rfl
theorem ix2_1 : ∀ V : World, (Instr.index 129 (.agg tab2) (.int .i64 1)).run Tryz.prog V = .ok (.nilFunc) V := fun V => by kernel_rfl
theorem ix2_2 : ∀ V : World, (Instr.index 129 (.agg tab2) (.int .i64 2)).run Tryz.prog V = .ok (.nilFunc) V := fun V => by kernel_rfl
theorem ix2_3 : ∀ V : World, (Instr.index 129 (.agg tab2) (.int .i64 3)).run Tryz.prog V = .ok (.nilFunc) V := fun V => by kernel_rfl
theorem ix2_4 : ∀ V : World, (Instr.index 129 (.agg tab2) (.int .i64 4)).run Tryz.prog V = .ok (.nilFunc) V := fun V => by kernel_rfl
theorem ix2_5 : ∀ V : World, (Instr.index 129 (.agg tab2) (.int .i64 5)).run Tryz.prog V = .ok (.nilFunc) V := fun V => by kernel_rfl
theorem ix2_6 : ∀ V : World, (Instr.index 129 (.agg tab2) (.int .i64 6)).run Tryz.prog V = .ok (.nilFunc) V := fun V => by kernel_rfl
theorem ix2_7 : ∀ V : World, (Instr.index 129 (.agg tab2) (.int .i64 7)).run Tryz.prog V = .ok (.nilFunc) V := fun V => by kernel_rfl
theorem ix2_8 : ∀ V : World, (Instr.index 129 (.agg tab2) (.int .i64 8)).run Tryz.prog V = .ok (.nilFunc) V := fun V => by kernel_rfl
theorem ix2_9 : ∀ V : World, (Instr.index 129 (.agg tab2) (.int .i64 9)).run Tryz.prog V = .ok (.nilFunc) V := fun V => by kernel_rfl
theorem ix2_10 : ∀ V : World, (Instr.index 129 (.agg tab2) (.int .i64 10)).run Tryz.prog V = .ok (.nilFunc) V := fun V => by kernel_rfl
theorem ix2_11 : ∀ V : World, (Instr.index 129 (.agg tab2) (.int .i64 11)).run Tryz.prog V = .ok (.nilFunc) V := fun V => by kernel_rfl
theorem ix2_12 : ∀ V : World, (Instr.index 129 (.agg tab2) (.int .i64 12)).run Tryz.prog V = .ok (.nilFunc) V := fun V => by kernel_rfl
theorem ix2_13 : ∀ V : World, (Instr.index 129 (.agg tab2) (.int .i64 13)).run Tryz.prog V = .ok (.nilFunc) V := fun V => by kernel_rfl
theorem ix2_14 : ∀ V : World, (Instr.index 129 (.agg tab2) (.int .i64 14)).run Tryz.prog V = .ok (.nilFunc) V := fun V => by kernel_rfl
theorem ix2_15 : ∀ V : World, (Instr.index 129 (.agg tab2) (.int .i64 15)).run Tryz.prog V = .ok (.nilFunc) V := fun V => by kernel_rfl
theorem ix2_16 : ∀ V : World, (Instr.index 129 (.agg tab2) (.int .i64 16)).run Tryz.prog V = .ok (.nilFunc) V := fun V => by kernel_rfl
-- XI
/-- Hear, of any bytes from anywhere -/
theorem rhear_any {w : World} {a : RA} {r : Rn} (h : Rm w a r) (hk : r.ok) (n l : Int) (b : ByteArray) (hbs : b.size ≤ 9223372036854775807) :
    Calls Tryz.prog 22 #[.pointer (some ⟨a.R, 0, none⟩), .agg #[.int .i64 n, .int .i64 l], .string b] w fun e w' => e = .returned (.tuple #[]) ∧ ∃ a', St w a r w' a' (r.hr n l b) := by
  have hd0 := fun V => W.decode_any b V hbs
  unfold Rn.hr
  by_cases hE : (W.Wr.decode W.limP b).2 = 0
  · rw [if_pos hE]
    obtain ⟨⟨k1, k16⟩, hse, hco⟩ := ms_small hE
    rw [hE] at hd0
    generalize (W.Wr.decode W.limP b).1 = m at *
    have hdo := doings_any n l
    obtain ⟨k, hmk⟩ : ∃ k : Nat, m.k = (k : Int) := ⟨m.k.toNat, by omega⟩
    have hnil : ∀ {tab : Array Value}, (∀ V, Calls Tryz.prog 58 #[.agg #[.int .i64 n, .int .i64 l]] V fun e w' => e = .returned (.agg tab) ∧ Below V.heap.size V w') → (∀ V : World, (Instr.index 129 (.agg tab) (.int .i64 m.k)).run Tryz.prog V = .ok (.nilFunc) V) → Calls Tryz.prog 22 #[.pointer (some ⟨a.R, 0, none⟩), .agg #[.int .i64 n, .int .i64 l], .string b] w fun e w' => e = .returned (.tuple #[]) ∧ ∃ a', St w a r w' a' r := fun hdo hix => (hear_nil n l hd0 hdo hix).mono fun e w' hh => ⟨hh.1, a, (St.refl h).low hh.2⟩
    have hno : ∀ V, Below w.heap.size w V → Calls Tryz.prog 104 #[.pointer (some ⟨a.R, 0, none⟩), .agg (W.msgC m)] V fun e w' => e = .returned (.tuple #[]) ∧ ∃ a', St V a r w' a' { r with c := (r.c.hear (smOf m)).c } := fun V hV => (noted_any (h.below hV) hk m).mono fun e w' hh => ⟨hh.1, a, hh.2⟩
    unfold tabs at hdo
    unfold Rn.act
    by_cases h0 : n = 0 ∧ l = 0
    · rw [if_pos h0]
      simp only [if_pos h0] at hdo
      by_cases q9 : m.k = 9
      · rw [if_pos q9]
        exact hear_offered n l hd0 hdo (by rw [q9]; exact ix0_9) (fun V hV => offered_any (h.below hV) hk m (uf_unpack m.pr))
      rw [if_neg q9]
      by_cases q12 : m.k = 12 ∨ m.k = 13
      · rw [if_pos q12]
        refine hear_dismissed n l hd0 hdo ?_ (fun V hV => (dismissed_any (h.below hV) hk m).mono fun e w' hh => ⟨hh.1, a, hh.2⟩)
        rcases q12 with q | q
        · rw [q]; exact ix0_12
        · rw [q]; exact ix0_13
      rw [if_neg q12]
      by_cases q14 : m.k = 14
      · rw [if_pos q14]
        exact hear_stored n l hd0 hdo (by rw [q14]; exact ix0_14) (fun V hV => stored_any (h.below hV) hk m hco)
      rw [if_neg q14]
      by_cases q7 : m.k = 7 ∨ m.k = 8 ∨ m.k = 10 ∨ m.k = 11
      · rw [if_pos q7]
        refine hear_noted n l hd0 hdo ?_ hno
        rcases q7 with q | q | q | q
        · rw [q]; exact ix0_7
        · rw [q]; exact ix0_8
        · rw [q]; exact ix0_10
        · rw [q]; exact ix0_11
      rw [if_neg q7]
      refine hnil hdo ?_
      rw [hmk]
      rcases (show k = 1 ∨ k = 2 ∨ k = 3 ∨ k = 4 ∨ k = 5 ∨ k = 6 ∨ k = 15 ∨ k = 16 by omega) with q | q | q | q | q | q | q | q
      · subst q
        exact ix0_1
      · subst q
        exact ix0_2
      · subst q
        exact ix0_3
      · subst q
        exact ix0_4
      · subst q
        exact ix0_5
      · subst q
        exact ix0_6
      · subst q
        exact ix0_15
      · subst q
        exact ix0_16
    · rw [if_neg h0]
      simp only [if_neg h0] at hdo
      by_cases h1 : n = 1 ∧ l = 0
      · rw [if_pos h1]
        simp only [if_pos h1] at hdo
        by_cases q15 : m.k = 15
        · rw [if_pos q15]
          exact hear_admitted n l hd0 hdo (by rw [q15]; exact ix1_15) (fun V hV => admitted_any (h.below hV) hk m hco)
        rw [if_neg q15]
        by_cases q16 : m.k = 16
        · rw [if_pos q16]
          exact hear_refused n l hd0 hdo (by rw [q16]; exact ix1_16) (fun V hV => (refused_any (h.below hV) m).mono fun e w' hh => ⟨hh.1, a, hh.2⟩)
        rw [if_neg q16]
        refine hnil hdo ?_
        rw [hmk]
        rcases (show k = 1 ∨ k = 2 ∨ k = 3 ∨ k = 4 ∨ k = 5 ∨ k = 6 ∨ k = 7 ∨ k = 8 ∨ k = 9 ∨ k = 10 ∨ k = 11 ∨ k = 12 ∨ k = 13 ∨ k = 14 by omega) with q | q | q | q | q | q | q | q | q | q | q | q | q | q
        · subst q
          exact ix1_1
        · subst q
          exact ix1_2
        · subst q
          exact ix1_3
        · subst q
          exact ix1_4
        · subst q
          exact ix1_5
        · subst q
          exact ix1_6
        · subst q
          exact ix1_7
        · subst q
          exact ix1_8
        · subst q
          exact ix1_9
        · subst q
          exact ix1_10
        · subst q
          exact ix1_11
        · subst q
          exact ix1_12
        · subst q
          exact ix1_13
        · subst q
          exact ix1_14
      · rw [if_neg h1]
        simp only [if_neg h1] at hdo
        refine hnil hdo ?_
        rw [hmk]
        rcases (show k = 1 ∨ k = 2 ∨ k = 3 ∨ k = 4 ∨ k = 5 ∨ k = 6 ∨ k = 7 ∨ k = 8 ∨ k = 9 ∨ k = 10 ∨ k = 11 ∨ k = 12 ∨ k = 13 ∨ k = 14 ∨ k = 15 ∨ k = 16 by omega) with q | q | q | q | q | q | q | q | q | q | q | q | q | q | q | q
        · subst q
          exact ix2_1
        · subst q
          exact ix2_2
        · subst q
          exact ix2_3
        · subst q
          exact ix2_4
        · subst q
          exact ix2_5
        · subst q
          exact ix2_6
        · subst q
          exact ix2_7
        · subst q
          exact ix2_8
        · subst q
          exact ix2_9
        · subst q
          exact ix2_10
        · subst q
          exact ix2_11
        · subst q
          exact ix2_12
        · subst q
          exact ix2_13
        · subst q
          exact ix2_14
        · subst q
          exact ix2_15
        · subst q
          exact ix2_16
  · rw [if_neg hE]
    exact (hear_bad n l hd0 hE).mono fun e w' hh => ⟨hh.1, a, (St.refl h).low hh.2⟩
/-- nothing is heard that is from a stranger, or no message, or no answer -/
theorem Rn.hr_deaf {r : Rn} {n l : Int} {b : ByteArray} (h : (W.Wr.decode W.limP b).2 ≠ 0 ∨ (¬ (n = 0 ∧ l = 0) ∧ ¬ (n = 1 ∧ l = 0)) ∨ (W.Wr.decode W.limP b).1.k < 7) : r.hr n l b = r := by
  unfold Rn.hr
  split
  · rename_i hE
    rcases h with h | ⟨h0, h1⟩ | h
    · exact absurd hE h
    · unfold Rn.act
      rw [if_neg h0, if_neg h1]
    · unfold Rn.act
      generalize (W.Wr.decode W.limP b).1.k = k at *
      split
      · rw [if_neg (by omega), if_neg (by omega), if_neg (by omega), if_neg (by omega)]
      · split
        · rw [if_neg (by omega), if_neg (by omega)]
        · rfl
  · rfl
theorem Rn.hr_ok {r : Rn} (h : r.ok) (n l : Int) (b : ByteArray) : (r.hr n l b).ok ∧ (r.hr n l b).T = r.T := by
  unfold Rn.hr
  split
  · rename_i hE
    exact Rn.act_ok h (ms_small hE).2.1 n l
  · exact ⟨h, rfl⟩
end Go.Proofs.YtkfnedhllfdghaaGreatDoor.RN
end
