import Derived.Test.YtkfnedhllfdghaaGreatDoorMgBH

section
namespace Go.Proofs.YtkfnedhllfdghaaGreatDoor.RN
open Go.RowKit Go.Shelf
set_option maxRecDepth 20000

/-- a job, and the look that it is laid into -/
structure Lx (w : World) (a : JA) (j : Jb) (B : Nat) (cs : Array Value) (V : World) : Prop where
  jm : Jm V a j
  bx : V.heap[B]? = some (.cells cs 48 (0, 0))
  on : CH.On B w V
section
variable {w : World} {a : JA} {j : Jb} {B : Nat} {cs : Array Value} {V V' : World}
theorem Lx.up (h : Lx w a j B cs V) (hb : Below V.heap.size V V') : Lx w a j B cs V' :=
  ⟨h.jm.below hb, (hb.block _ (lt_of_block h.bx)).trans h.bx, h.on.trans (CH.On.of_below hb)⟩
theorem Jm.no_d (h : Jm V a j) {b i : Nat} {cs : Array Value} {t : TypeId} (hc : V.heap[b]? = some (.cells cs t (0, 0)))
    (h1 : t ≠ 126) (h2 : t ≠ 204) (h3 : t ≠ 170) (h4 : t ≠ 189) (h5 : t ≠ 9) : ¬ a.d b i := by
  rintro (e | e | e | e | e | ⟨e, k1, k2⟩ | ⟨e, k1, k2⟩)
  · exact CH.blk_ne hc h.jb h1 e
  · exact CH.blk_ne hc h.mb.blk h2 e
  · exact CH.blk_ne hc h.lg.cb h3 e
  · exact CH.blk_ne hc h.ar.cb h3 e
  · obtain ⟨cur, hd⟩ := h.cd.typ
    exact CH.blk_ne hc hd h4 e
  · obtain ⟨cur, hd⟩ := h.x1 (by omega)
    exact CH.blk_ne hc hd h5 e
  · obtain ⟨cur, hd⟩ := h.x2 (by omega)
    exact CH.blk_ne hc hd h5 e
theorem Lx.set (h : Lx w a j B cs V) (o : Nat) (u : Value) : Lx w a j B (cs.setIfInBounds o u) (V.setCell ⟨B, o, none⟩ u) := by
  have kp : Kp (fun b _ => b = B) V (V.setCell ⟨B, o, none⟩ u) := Kp.of_on (on_set V B o u) h.bx (by decide) (fun _ => rfl)
  exact ⟨h.jm.kp kp (fun b i hd e => h.jm.no_d h.bx (by decide) (by decide) (by decide) (by decide) (by decide) (e ▸ hd)), own_set V B o u _ _ _ h.bx, h.on.set o u⟩
structure Lc (a : JA) (jno jba : Int) (V : World) : Prop where
  c0 : V.cell? ⟨a.J, 0, none⟩ = some (.pointer (some ⟨a.M, 0, none⟩))
  c1 : V.cell? ⟨a.J, 1, none⟩ = some (.int .i64 jno)
  c2 : V.cell? ⟨a.J, 2, none⟩ = some (.int .i64 jba)
  c3 : V.cell? ⟨a.J, 3, none⟩ = some (.pointer (some ⟨a.L, 0, none⟩))
  c4 : V.cell? ⟨a.J, 4, none⟩ = some (.pointer (some ⟨a.A, 0, none⟩))
theorem Lx.lc (h : Lx w a j B cs V) : Lc a j.no j.ba V := ⟨h.jm.c0, h.jm.c1_, h.jm.c2_, h.jm.c3_, h.jm.c4_⟩
theorem look_cells {x0 x1 x2 x3 x4 x5 x6 x7 x8 x9 x10 x11 x12 x13 x14 x15 x16 x17 x18 x19 : Value} {t : TypeId} (h : V.heap[B]? = some (.cells #[x0, x1, x2, x3, x4, x5, x6, x7, x8, x9, x10, x11, x12, x13, x14, x15, x16, x17, x18, x19] t (0, 0))) : V.cell? ⟨B, 0, none⟩ = some x0 ∧ V.cell? ⟨B, 1, none⟩ = some x1 ∧ V.cell? ⟨B, 2, none⟩ = some x2 ∧ V.cell? ⟨B, 3, none⟩ = some x3 ∧ V.cell? ⟨B, 4, none⟩ = some x4 ∧ V.cell? ⟨B, 5, none⟩ = some x5 ∧ V.cell? ⟨B, 6, none⟩ = some x6 ∧ V.cell? ⟨B, 7, none⟩ = some x7 ∧ V.cell? ⟨B, 8, none⟩ = some x8 ∧ V.cell? ⟨B, 9, none⟩ = some x9 ∧ V.cell? ⟨B, 10, none⟩ = some x10 ∧ V.cell? ⟨B, 11, none⟩ = some x11 ∧ V.cell? ⟨B, 12, none⟩ = some x12 ∧ V.cell? ⟨B, 13, none⟩ = some x13 ∧ V.cell? ⟨B, 14, none⟩ = some x14 ∧ V.cell? ⟨B, 15, none⟩ = some x15 ∧ V.cell? ⟨B, 16, none⟩ = some x16 ∧ V.cell? ⟨B, 17, none⟩ = some x17 ∧ V.cell? ⟨B, 18, none⟩ = some x18 ∧ V.cell? ⟨B, 19, none⟩ = some x19 :=
  ⟨cell_of h rfl, cell_of h rfl, cell_of h rfl, cell_of h rfl, cell_of h rfl, cell_of h rfl, cell_of h rfl, cell_of h rfl, cell_of h rfl, cell_of h rfl, cell_of h rfl, cell_of h rfl, cell_of h rfl, cell_of h rfl, cell_of h rfl, cell_of h rfl, cell_of h rfl, cell_of h rfl, cell_of h rfl, cell_of h rfl⟩
end
set_option maxHeartbeats 16000000 in
theorem show_any {w : World} {a : JA} {j : Jb} {B : Nat} {x0 x1 x2 x3 x4 x5 x6 x7 x8 x9 x10 x11 x12 x13 x14 x15 x16 x17 x18 x19 : Value} (h : Jm w a j) (hk : j.ok) (hB : w.heap[B]? = some (.cells #[x0, x1, x2, x3, x4, x5, x6, x7, x8, x9, x10, x11, x12, x13, x14, x15, x16, x17, x18, x19] 48 (0, 0))) :
    Calls Tryz.prog 39 #[.pointer (some ⟨a.J, 0, none⟩), .pointer (some ⟨B, 0, none⟩)] w fun e w' => e = .returned (.tuple #[]) ∧ CH.On B w w' ∧ w'.heap[B]? = some (.cells #[x0, x1, x2, x3, x4, x5, .int .i64 j.no, .int .i64 j.ba, .int .i64 (j.m.dn : Int), .bool j.m.ov, .int .i64 (Im.resC j.m : Int), .int .u64 (Im.resB j.m : Int), .int .i64 (j.lg.len : Int), .int .i64 (j.lg.go : Int), .int .i64 (j.lg.said : Int), .int .i64 (j.lg.ti : Int), .int .i64 (j.ar.len : Int), .int .i64 (j.ar.go : Int), .int .i64 (j.ar.said : Int), .int .i64 (j.ar.ti : Int)] 48 (0, 0)) := by
  have HL0 : Hid (Lx w a j B #[x0, x1, x2, x3, x4, x5, x6, x7, x8, x9, x10, x11, x12, x13, x14, x15, x16, x17, x18, x19] w) := hide ⟨h, hB, CH.On.refl _ _⟩
  have HDn := hide (fun (cs : Array Value) (V : World) (hV : Lx w a j B cs V) => (done_any hV.jm.mb).mono (fun _ w' ⟨h1, h2⟩ => (⟨h1, h2 ▸ Below.refl _ _⟩ : _ ∧ Below V.heap.size V w')))
  have HOv := hide (fun (cs : Array Value) (V : World) (hV : Lx w a j B cs V) => (over_any hV.jm.mb).mono (fun _ w' ⟨h1, h2⟩ => (⟨h1, h2 ▸ Below.refl _ _⟩ : _ ∧ Below V.heap.size V w')))
  have HRe := hide (fun (cs : Array Value) (V : World) (hV : Lx w a j B cs V) => result_any hV.jm.mb)
  have HL1 := hide (fun (cs : Array Value) (V : World) (hV : Lx w a j B cs V) => (CH.len_any hk.lg.l hV.jm.lg).mono (fun _ w' ⟨h1, m, h2⟩ => (⟨h1, h2 ▸ below_dr _ m⟩ : _ ∧ Below V.heap.size V w')))
  have HA1 := hide (fun (cs : Array Value) (V : World) (hV : Lx w a j B cs V) => (CH.acked_any hV.jm.lg).mono (fun _ w' ⟨h1, h2⟩ => (⟨h1, h2 ▸ Below.refl _ _⟩ : _ ∧ Below V.heap.size V w')))
  have HS1 := hide (fun (cs : Array Value) (V : World) (hV : Lx w a j B cs V) => (CH.said_any hV.jm.lg).mono (fun _ w' ⟨h1, h2⟩ => (⟨h1, h2 ▸ Below.refl _ _⟩ : _ ∧ Below V.heap.size V w')))
  have HT1 := hide (fun (cs : Array Value) (V : World) (hV : Lx w a j B cs V) => (CH.timer_any hV.jm.lg).mono (fun _ w' ⟨h1, h2⟩ => (⟨h1, h2 ▸ Below.refl _ _⟩ : _ ∧ Below V.heap.size V w')))
  have HL2 := hide (fun (cs : Array Value) (V : World) (hV : Lx w a j B cs V) => (CH.len_any hk.ar.l hV.jm.ar).mono (fun _ w' ⟨h1, m, h2⟩ => (⟨h1, h2 ▸ below_dr _ m⟩ : _ ∧ Below V.heap.size V w')))
  have HA2 := hide (fun (cs : Array Value) (V : World) (hV : Lx w a j B cs V) => (CH.acked_any hV.jm.ar).mono (fun _ w' ⟨h1, h2⟩ => (⟨h1, h2 ▸ Below.refl _ _⟩ : _ ∧ Below V.heap.size V w')))
  have HS2 := hide (fun (cs : Array Value) (V : World) (hV : Lx w a j B cs V) => (CH.said_any hV.jm.ar).mono (fun _ w' ⟨h1, h2⟩ => (⟨h1, h2 ▸ Below.refl _ _⟩ : _ ∧ Below V.heap.size V w')))
  have HT2 := hide (fun (cs : Array Value) (V : World) (hV : Lx w a j B cs V) => (CH.timer_any hV.jm.ar).mono (fun _ w' ⟨h1, h2⟩ => (⟨h1, h2 ▸ Below.refl _ _⟩ : _ ∧ Below V.heap.size V w')))
  clear h hk hB
  go_enter Tryz.func39, Tryz.ntmps39
  go_upto_region 0 with fail
  have HLy0 := hide (HL0.out.up (below_dr w 1))
  refine wp_region_held_drew (S := fun V => Lc a j.no j.ba V) (by kernel_rfl) (HLy0.out.lc) (fun hHeld => ?_)
  refine wpAnyH_take (i := 0) (v := .pointer (some ⟨B, 0, none⟩)) rfl (by kernel_rfl) (by kernel_rfl) (by kernel_rfl) (fun _ _ _ h => h) (Or.inl ⟨by kernel_rfl, fun w1 hSw => by clear hHeld; have k0 := hSw.c0; have k1 := hSw.c1; have k2 := hSw.c2; have k3 := hSw.c3; have k4 := hSw.c4; go_simp⟩) hHeld ?_
  try simp only [Act.put]
  try simp only [List.getElem_toArray]
  try simp only [List.getElem_cons_succ]
  try simp only [List.getElem_cons_zero]
  try simp only [List.setIfInBounds_toArray]
  try simp only [List.set_cons_succ, List.set_cons_zero]
  refine wpAnyH_take (i := 1) (v := .pointer (some ⟨B, 0, none⟩)) rfl (by kernel_rfl) (by kernel_rfl) (by kernel_rfl) (fun _ _ _ h => h) (Or.inl ⟨by kernel_rfl, fun w1 hSw => by clear hHeld; have k0 := hSw.c0; have k1 := hSw.c1; have k2 := hSw.c2; have k3 := hSw.c3; have k4 := hSw.c4; go_simp⟩) hHeld ?_
  try simp only [Act.put]
  try simp only [List.getElem_toArray]
  try simp only [List.getElem_cons_succ]
  try simp only [List.getElem_cons_zero]
  try simp only [List.setIfInBounds_toArray]
  try simp only [List.set_cons_succ, List.set_cons_zero]
  refine wpAnyH_take (i := 2) (v := .pointer (some ⟨a.J, 0, none⟩)) rfl (by kernel_rfl) (by kernel_rfl) (by kernel_rfl) (fun _ _ _ h => h) (Or.inl ⟨by kernel_rfl, fun w1 hSw => by clear hHeld; have k0 := hSw.c0; have k1 := hSw.c1; have k2 := hSw.c2; have k3 := hSw.c3; have k4 := hSw.c4; go_simp⟩) hHeld ?_
  try simp only [Act.put]
  try simp only [List.getElem_toArray]
  try simp only [List.getElem_cons_succ]
  try simp only [List.getElem_cons_zero]
  try simp only [List.setIfInBounds_toArray]
  try simp only [List.set_cons_succ, List.set_cons_zero]
  refine wpAnyH_take (i := 3) (v := .pointer (some ⟨a.J, 0, none⟩)) rfl (by kernel_rfl) (by kernel_rfl) (by kernel_rfl) (fun _ _ _ h => h) (Or.inl ⟨by kernel_rfl, fun w1 hSw => by clear hHeld; have k0 := hSw.c0; have k1 := hSw.c1; have k2 := hSw.c2; have k3 := hSw.c3; have k4 := hSw.c4; go_simp⟩) hHeld ?_
  try simp only [Act.put]
  try simp only [List.getElem_toArray]
  try simp only [List.getElem_cons_succ]
  try simp only [List.getElem_cons_zero]
  try simp only [List.setIfInBounds_toArray]
  try simp only [List.set_cons_succ, List.set_cons_zero]
  refine wpAnyH_take (i := 4) (v := .pointer (some ⟨a.J, 1, none⟩)) rfl (by kernel_rfl) (by kernel_rfl) (by kernel_rfl) (fun _ _ _ h => h) (Or.inl ⟨by kernel_rfl, fun w1 hSw => by clear hHeld; have k0 := hSw.c0; have k1 := hSw.c1; have k2 := hSw.c2; have k3 := hSw.c3; have k4 := hSw.c4; go_simp⟩) hHeld ?_
  try simp only [Act.put]
  try simp only [List.getElem_toArray]
  try simp only [List.getElem_cons_succ]
  try simp only [List.getElem_cons_zero]
  try simp only [List.setIfInBounds_toArray]
  try simp only [List.set_cons_succ, List.set_cons_zero]
  refine wpAnyH_take (i := 5) (v := .int .i64 j.no) rfl (by kernel_rfl) (by kernel_rfl) (by kernel_rfl) (fun _ _ _ h => h) (Or.inl ⟨by kernel_rfl, fun w1 hSw => by clear hHeld; have k0 := hSw.c0; have k1 := hSw.c1; have k2 := hSw.c2; have k3 := hSw.c3; have k4 := hSw.c4; go_simp⟩) hHeld ?_
  try simp only [Act.put]
  try simp only [List.getElem_toArray]
  try simp only [List.getElem_cons_succ]
  try simp only [List.getElem_cons_zero]
  try simp only [List.setIfInBounds_toArray]
  try simp only [List.set_cons_succ, List.set_cons_zero]
  refine wpAnyH_take (i := 6) (v := .pointer (some ⟨a.J, 0, none⟩)) rfl (by kernel_rfl) (by kernel_rfl) (by kernel_rfl) (fun _ _ _ h => h) (Or.inl ⟨by kernel_rfl, fun w1 hSw => by clear hHeld; have k0 := hSw.c0; have k1 := hSw.c1; have k2 := hSw.c2; have k3 := hSw.c3; have k4 := hSw.c4; go_simp⟩) hHeld ?_
  try simp only [Act.put]
  try simp only [List.getElem_toArray]
  try simp only [List.getElem_cons_succ]
  try simp only [List.getElem_cons_zero]
  try simp only [List.setIfInBounds_toArray]
  try simp only [List.set_cons_succ, List.set_cons_zero]
  refine wpAnyH_take (i := 7) (v := .pointer (some ⟨a.J, 0, none⟩)) rfl (by kernel_rfl) (by kernel_rfl) (by kernel_rfl) (fun _ _ _ h => h) (Or.inl ⟨by kernel_rfl, fun w1 hSw => by clear hHeld; have k0 := hSw.c0; have k1 := hSw.c1; have k2 := hSw.c2; have k3 := hSw.c3; have k4 := hSw.c4; go_simp⟩) hHeld ?_
  try simp only [Act.put]
  try simp only [List.getElem_toArray]
  try simp only [List.getElem_cons_succ]
  try simp only [List.getElem_cons_zero]
  try simp only [List.setIfInBounds_toArray]
  try simp only [List.set_cons_succ, List.set_cons_zero]
  refine wpAnyH_take (i := 8) (v := .pointer (some ⟨a.J, 2, none⟩)) rfl (by kernel_rfl) (by kernel_rfl) (by kernel_rfl) (fun _ _ _ h => h) (Or.inl ⟨by kernel_rfl, fun w1 hSw => by clear hHeld; have k0 := hSw.c0; have k1 := hSw.c1; have k2 := hSw.c2; have k3 := hSw.c3; have k4 := hSw.c4; go_simp⟩) hHeld ?_
  try simp only [Act.put]
  try simp only [List.getElem_toArray]
  try simp only [List.getElem_cons_succ]
  try simp only [List.getElem_cons_zero]
  try simp only [List.setIfInBounds_toArray]
  try simp only [List.set_cons_succ, List.set_cons_zero]
  refine wpAnyH_take (i := 9) (v := .int .i64 j.ba) rfl (by kernel_rfl) (by kernel_rfl) (by kernel_rfl) (fun _ _ _ h => h) (Or.inl ⟨by kernel_rfl, fun w1 hSw => by clear hHeld; have k0 := hSw.c0; have k1 := hSw.c1; have k2 := hSw.c2; have k3 := hSw.c3; have k4 := hSw.c4; go_simp⟩) hHeld ?_
  try simp only [Act.put]
  try simp only [List.getElem_toArray]
  try simp only [List.getElem_cons_succ]
  try simp only [List.getElem_cons_zero]
  try simp only [List.setIfInBounds_toArray]
  try simp only [List.set_cons_succ, List.set_cons_zero]
  refine wpAnyH_take (i := 10) (v := .pointer (some ⟨B, 0, none⟩)) rfl (by kernel_rfl) (by kernel_rfl) (by kernel_rfl) (fun _ _ _ h => h) (Or.inl ⟨by kernel_rfl, fun w1 hSw => by clear hHeld; have k0 := hSw.c0; have k1 := hSw.c1; have k2 := hSw.c2; have k3 := hSw.c3; have k4 := hSw.c4; go_simp⟩) hHeld ?_
  try simp only [Act.put]
  try simp only [List.getElem_toArray]
  try simp only [List.getElem_cons_succ]
  try simp only [List.getElem_cons_zero]
  try simp only [List.setIfInBounds_toArray]
  try simp only [List.set_cons_succ, List.set_cons_zero]
  refine wpAnyH_take (i := 11) (v := .pointer (some ⟨B, 6, none⟩)) rfl (by kernel_rfl) (by kernel_rfl) (by kernel_rfl) (fun _ _ _ h => h) (Or.inl ⟨by kernel_rfl, fun w1 hSw => by clear hHeld; have k0 := hSw.c0; have k1 := hSw.c1; have k2 := hSw.c2; have k3 := hSw.c3; have k4 := hSw.c4; go_simp⟩) hHeld ?_
  try simp only [Act.put]
  try simp only [List.getElem_toArray]
  try simp only [List.getElem_cons_succ]
  try simp only [List.getElem_cons_zero]
  try simp only [List.setIfInBounds_toArray]
  try simp only [List.set_cons_succ, List.set_cons_zero]
  refine wpAnyH_ready (rs := [12]) (by kernel_rfl) (by simp) ?_
  refine AllReadyH.cons rfl (fun K hK => ?_) AllReadyH.nil
  have hz := blk_z (show w.heap[B]? = _ from HLy0.out.bx)
  obtain ⟨q0, q1, q2, q3, q4, q5, q6, q7, q8, q9, q10, q11, q12, q13, q14, q15, q16, q17, q18, q19⟩ := look_cells (show w.heap[B]? = _ from HLy0.out.bx)
  have hBl := lt_of_block (show w.heap[B]? = _ from HLy0.out.bx)
  have HLv1 : Hid (Lx w a j B #[x0, x1, x2, x3, x4, x5, .int .i64 j.no, x7, x8, x9, x10, x11, x12, x13, x14, x15, x16, x17, x18, x19] (w.setCell ⟨B, 6, none⟩ (.int .i64 j.no)).drew) := hide (HLy0.out.set 6 _)
  clear hHeld
  go_simp
  obtain ⟨V1, hV⟩ : ∃ V, (w.setCell ⟨B, 6, none⟩ (.int .i64 j.no)).drew = V := ⟨_, rfl⟩
  rw [hV] at HLv1 ⊢
  clear hV hz hBl q0 q1 q2 q3 q4 q5 q6 q7 q8 q9 q10 q11 q12 q13 q14 q15 q16 q17 q18 q19
  refine hK.out _ _ (HLv1.out.lc) (fun hHeld => ?_)
  clear hK K
  try simp only [Act.put]
  try simp only [List.getElem_toArray]
  try simp only [List.getElem_cons_succ]
  try simp only [List.getElem_cons_zero]
  try simp only [List.setIfInBounds_toArray]
  try simp only [List.set_cons_succ, List.set_cons_zero]
  refine wpAnyH_take (i := 13) (v := .pointer (some ⟨B, 0, none⟩)) rfl (by kernel_rfl) (by kernel_rfl) (by kernel_rfl) (fun _ _ _ h => h) (Or.inl ⟨by kernel_rfl, fun w1 hSw => by clear hHeld; have k0 := hSw.c0; have k1 := hSw.c1; have k2 := hSw.c2; have k3 := hSw.c3; have k4 := hSw.c4; go_simp⟩) hHeld ?_
  try simp only [Act.put]
  try simp only [List.getElem_toArray]
  try simp only [List.getElem_cons_succ]
  try simp only [List.getElem_cons_zero]
  try simp only [List.setIfInBounds_toArray]
  try simp only [List.set_cons_succ, List.set_cons_zero]
  refine wpAnyH_take (i := 14) (v := .pointer (some ⟨B, 7, none⟩)) rfl (by kernel_rfl) (by kernel_rfl) (by kernel_rfl) (fun _ _ _ h => h) (Or.inl ⟨by kernel_rfl, fun w1 hSw => by clear hHeld; have k0 := hSw.c0; have k1 := hSw.c1; have k2 := hSw.c2; have k3 := hSw.c3; have k4 := hSw.c4; go_simp⟩) hHeld ?_
  try simp only [Act.put]
  try simp only [List.getElem_toArray]
  try simp only [List.getElem_cons_succ]
  try simp only [List.getElem_cons_zero]
  try simp only [List.setIfInBounds_toArray]
  try simp only [List.set_cons_succ, List.set_cons_zero]
  refine wpAnyH_ready (rs := [15]) (by kernel_rfl) (by simp) ?_
  refine AllReadyH.cons rfl (fun K hK => ?_) AllReadyH.nil
  have hz := blk_z HLv1.out.bx
  obtain ⟨q0, q1, q2, q3, q4, q5, q6, q7, q8, q9, q10, q11, q12, q13, q14, q15, q16, q17, q18, q19⟩ := look_cells HLv1.out.bx
  have hBl := lt_of_block HLv1.out.bx
  have HLv2 : Hid (Lx w a j B #[x0, x1, x2, x3, x4, x5, .int .i64 j.no, .int .i64 j.ba, x8, x9, x10, x11, x12, x13, x14, x15, x16, x17, x18, x19] (V1.setCell ⟨B, 7, none⟩ (.int .i64 j.ba))) := hide (HLv1.out.set 7 _)
  clear hHeld
  go_simp
  obtain ⟨V2, hV⟩ : ∃ V, (V1.setCell ⟨B, 7, none⟩ (.int .i64 j.ba)) = V := ⟨_, rfl⟩
  rw [hV] at HLv2 ⊢
  clear hV hz hBl q0 q1 q2 q3 q4 q5 q6 q7 q8 q9 q10 q11 q12 q13 q14 q15 q16 q17 q18 q19
  refine hK.out _ _ (HLv2.out.lc) (fun hHeld => ?_)
  clear hK K
  try simp only [Act.put]
  try simp only [List.getElem_toArray]
  try simp only [List.getElem_cons_succ]
  try simp only [List.getElem_cons_zero]
  try simp only [List.setIfInBounds_toArray]
  try simp only [List.set_cons_succ, List.set_cons_zero]
  refine wpAnyH_done (by kernel_rfl) ?_ _
  clear hHeld
  go_upto_region 1 with fail
  have HLy1 := hide (HLv2.out.up (below_dr V2 1))
  refine wp_region_held_drew (S := fun V => Lc a j.no j.ba V) (by kernel_rfl) (HLy1.out.lc) (fun hHeld => ?_)
  refine wpAnyH_take (i := 0) (v := .pointer (some ⟨B, 0, none⟩)) rfl (by kernel_rfl) (by kernel_rfl) (by kernel_rfl) (fun _ _ _ h => h) (Or.inl ⟨by kernel_rfl, fun w1 hSw => by clear hHeld; have k0 := hSw.c0; have k1 := hSw.c1; have k2 := hSw.c2; have k3 := hSw.c3; have k4 := hSw.c4; go_simp⟩) hHeld ?_
  try simp only [Act.put]
  try simp only [List.getElem_toArray]
  try simp only [List.getElem_cons_succ]
  try simp only [List.getElem_cons_zero]
  try simp only [List.setIfInBounds_toArray]
  try simp only [List.set_cons_succ, List.set_cons_zero]
  refine wpAnyH_take (i := 1) (v := .pointer (some ⟨B, 0, none⟩)) rfl (by kernel_rfl) (by kernel_rfl) (by kernel_rfl) (fun _ _ _ h => h) (Or.inl ⟨by kernel_rfl, fun w1 hSw => by clear hHeld; have k0 := hSw.c0; have k1 := hSw.c1; have k2 := hSw.c2; have k3 := hSw.c3; have k4 := hSw.c4; go_simp⟩) hHeld ?_
  try simp only [Act.put]
  try simp only [List.getElem_toArray]
  try simp only [List.getElem_cons_succ]
  try simp only [List.getElem_cons_zero]
  try simp only [List.setIfInBounds_toArray]
  try simp only [List.set_cons_succ, List.set_cons_zero]
  refine wpAnyH_take (i := 2) (v := .pointer (some ⟨B, 0, none⟩)) rfl (by kernel_rfl) (by kernel_rfl) (by kernel_rfl) (fun _ _ _ h => h) (Or.inl ⟨by kernel_rfl, fun w1 hSw => by clear hHeld; have k0 := hSw.c0; have k1 := hSw.c1; have k2 := hSw.c2; have k3 := hSw.c3; have k4 := hSw.c4; go_simp⟩) hHeld ?_
  try simp only [Act.put]
  try simp only [List.getElem_toArray]
  try simp only [List.getElem_cons_succ]
  try simp only [List.getElem_cons_zero]
  try simp only [List.setIfInBounds_toArray]
  try simp only [List.set_cons_succ, List.set_cons_zero]
  refine wpAnyH_take (i := 3) (v := .pointer (some ⟨a.J, 0, none⟩)) rfl (by kernel_rfl) (by kernel_rfl) (by kernel_rfl) (fun _ _ _ h => h) (Or.inl ⟨by kernel_rfl, fun w1 hSw => by clear hHeld; have k0 := hSw.c0; have k1 := hSw.c1; have k2 := hSw.c2; have k3 := hSw.c3; have k4 := hSw.c4; go_simp⟩) hHeld ?_
  try simp only [Act.put]
  try simp only [List.getElem_toArray]
  try simp only [List.getElem_cons_succ]
  try simp only [List.getElem_cons_zero]
  try simp only [List.setIfInBounds_toArray]
  try simp only [List.set_cons_succ, List.set_cons_zero]
  refine wpAnyH_take (i := 4) (v := .pointer (some ⟨a.J, 0, none⟩)) rfl (by kernel_rfl) (by kernel_rfl) (by kernel_rfl) (fun _ _ _ h => h) (Or.inl ⟨by kernel_rfl, fun w1 hSw => by clear hHeld; have k0 := hSw.c0; have k1 := hSw.c1; have k2 := hSw.c2; have k3 := hSw.c3; have k4 := hSw.c4; go_simp⟩) hHeld ?_
  try simp only [Act.put]
  try simp only [List.getElem_toArray]
  try simp only [List.getElem_cons_succ]
  try simp only [List.getElem_cons_zero]
  try simp only [List.setIfInBounds_toArray]
  try simp only [List.set_cons_succ, List.set_cons_zero]
  refine wpAnyH_take (i := 5) (v := .pointer (some ⟨a.J, 0, none⟩)) rfl (by kernel_rfl) (by kernel_rfl) (by kernel_rfl) (fun _ _ _ h => h) (Or.inl ⟨by kernel_rfl, fun w1 hSw => by clear hHeld; have k0 := hSw.c0; have k1 := hSw.c1; have k2 := hSw.c2; have k3 := hSw.c3; have k4 := hSw.c4; go_simp⟩) hHeld ?_
  try simp only [Act.put]
  try simp only [List.getElem_toArray]
  try simp only [List.getElem_cons_succ]
  try simp only [List.getElem_cons_zero]
  try simp only [List.setIfInBounds_toArray]
  try simp only [List.set_cons_succ, List.set_cons_zero]
  refine wpAnyH_take (i := 6) (v := .pointer (some ⟨a.M, 0, none⟩)) rfl (by kernel_rfl) (by kernel_rfl) (by kernel_rfl) (fun _ _ _ h => h) (Or.inl ⟨by kernel_rfl, fun w1 hSw => by clear hHeld; have k0 := hSw.c0; have k1 := hSw.c1; have k2 := hSw.c2; have k3 := hSw.c3; have k4 := hSw.c4; go_simp⟩) hHeld ?_
  try simp only [Act.put]
  try simp only [List.getElem_toArray]
  try simp only [List.getElem_cons_succ]
  try simp only [List.getElem_cons_zero]
  try simp only [List.setIfInBounds_toArray]
  try simp only [List.set_cons_succ, List.set_cons_zero]
  refine wpAnyH_take (i := 8) (v := .pointer (some ⟨a.J, 0, none⟩)) rfl (by kernel_rfl) (by kernel_rfl) (by kernel_rfl) (fun _ _ _ h => h) (Or.inl ⟨by kernel_rfl, fun w1 hSw => by clear hHeld; have k0 := hSw.c0; have k1 := hSw.c1; have k2 := hSw.c2; have k3 := hSw.c3; have k4 := hSw.c4; go_simp⟩) hHeld ?_
  try simp only [Act.put]
  try simp only [List.getElem_toArray]
  try simp only [List.getElem_cons_succ]
  try simp only [List.getElem_cons_zero]
  try simp only [List.setIfInBounds_toArray]
  try simp only [List.set_cons_succ, List.set_cons_zero]
  refine wpAnyH_take (i := 9) (v := .pointer (some ⟨a.J, 0, none⟩)) rfl (by kernel_rfl) (by kernel_rfl) (by kernel_rfl) (fun _ _ _ h => h) (Or.inl ⟨by kernel_rfl, fun w1 hSw => by clear hHeld; have k0 := hSw.c0; have k1 := hSw.c1; have k2 := hSw.c2; have k3 := hSw.c3; have k4 := hSw.c4; go_simp⟩) hHeld ?_
  try simp only [Act.put]
  try simp only [List.getElem_toArray]
  try simp only [List.getElem_cons_succ]
  try simp only [List.getElem_cons_zero]
  try simp only [List.setIfInBounds_toArray]
  try simp only [List.set_cons_succ, List.set_cons_zero]
  refine wpAnyH_take (i := 10) (v := .pointer (some ⟨a.J, 0, none⟩)) rfl (by kernel_rfl) (by kernel_rfl) (by kernel_rfl) (fun _ _ _ h => h) (Or.inl ⟨by kernel_rfl, fun w1 hSw => by clear hHeld; have k0 := hSw.c0; have k1 := hSw.c1; have k2 := hSw.c2; have k3 := hSw.c3; have k4 := hSw.c4; go_simp⟩) hHeld ?_
  try simp only [Act.put]
  try simp only [List.getElem_toArray]
  try simp only [List.getElem_cons_succ]
  try simp only [List.getElem_cons_zero]
  try simp only [List.setIfInBounds_toArray]
  try simp only [List.set_cons_succ, List.set_cons_zero]
  refine wpAnyH_take (i := 11) (v := .pointer (some ⟨a.M, 0, none⟩)) rfl (by kernel_rfl) (by kernel_rfl) (by kernel_rfl) (fun _ _ _ h => h) (Or.inl ⟨by kernel_rfl, fun w1 hSw => by clear hHeld; have k0 := hSw.c0; have k1 := hSw.c1; have k2 := hSw.c2; have k3 := hSw.c3; have k4 := hSw.c4; go_simp⟩) hHeld ?_
  try simp only [Act.put]
  try simp only [List.getElem_toArray]
  try simp only [List.getElem_cons_succ]
  try simp only [List.getElem_cons_zero]
  try simp only [List.setIfInBounds_toArray]
  try simp only [List.set_cons_succ, List.set_cons_zero]
  refine wpAnyH_take (i := 13) (v := .pointer (some ⟨a.J, 0, none⟩)) rfl (by kernel_rfl) (by kernel_rfl) (by kernel_rfl) (fun _ _ _ h => h) (Or.inl ⟨by kernel_rfl, fun w1 hSw => by clear hHeld; have k0 := hSw.c0; have k1 := hSw.c1; have k2 := hSw.c2; have k3 := hSw.c3; have k4 := hSw.c4; go_simp⟩) hHeld ?_
  try simp only [Act.put]
  try simp only [List.getElem_toArray]
  try simp only [List.getElem_cons_succ]
  try simp only [List.getElem_cons_zero]
  try simp only [List.setIfInBounds_toArray]
  try simp only [List.set_cons_succ, List.set_cons_zero]
  refine wpAnyH_take (i := 14) (v := .pointer (some ⟨a.J, 0, none⟩)) rfl (by kernel_rfl) (by kernel_rfl) (by kernel_rfl) (fun _ _ _ h => h) (Or.inl ⟨by kernel_rfl, fun w1 hSw => by clear hHeld; have k0 := hSw.c0; have k1 := hSw.c1; have k2 := hSw.c2; have k3 := hSw.c3; have k4 := hSw.c4; go_simp⟩) hHeld ?_
  try simp only [Act.put]
  try simp only [List.getElem_toArray]
  try simp only [List.getElem_cons_succ]
  try simp only [List.getElem_cons_zero]
  try simp only [List.setIfInBounds_toArray]
  try simp only [List.set_cons_succ, List.set_cons_zero]
  refine wpAnyH_take (i := 15) (v := .pointer (some ⟨a.J, 0, none⟩)) rfl (by kernel_rfl) (by kernel_rfl) (by kernel_rfl) (fun _ _ _ h => h) (Or.inl ⟨by kernel_rfl, fun w1 hSw => by clear hHeld; have k0 := hSw.c0; have k1 := hSw.c1; have k2 := hSw.c2; have k3 := hSw.c3; have k4 := hSw.c4; go_simp⟩) hHeld ?_
  try simp only [Act.put]
  try simp only [List.getElem_toArray]
  try simp only [List.getElem_cons_succ]
  try simp only [List.getElem_cons_zero]
  try simp only [List.setIfInBounds_toArray]
  try simp only [List.set_cons_succ, List.set_cons_zero]
  refine wpAnyH_take (i := 16) (v := .pointer (some ⟨a.M, 0, none⟩)) rfl (by kernel_rfl) (by kernel_rfl) (by kernel_rfl) (fun _ _ _ h => h) (Or.inl ⟨by kernel_rfl, fun w1 hSw => by clear hHeld; have k0 := hSw.c0; have k1 := hSw.c1; have k2 := hSw.c2; have k3 := hSw.c3; have k4 := hSw.c4; go_simp⟩) hHeld ?_
  try simp only [Act.put]
  try simp only [List.getElem_toArray]
  try simp only [List.getElem_cons_succ]
  try simp only [List.getElem_cons_zero]
  try simp only [List.setIfInBounds_toArray]
  try simp only [List.set_cons_succ, List.set_cons_zero]
  refine wpAnyH_ready (rs := [7]) (by kernel_rfl) (by simp) ?_
  refine AllReadyH.cons rfl (fun K hK => ?_) AllReadyH.nil
  go_simp
  refine (HDn.out _ _ HLy1.out).mono ?_
  rintro e V3 ⟨rfl, hb⟩
  have HLv3 := hide (HLy1.out.up hb)
  clear hb
  refine hK.out _ _ (HLv3.out.lc) (fun hHeld => ?_)
  clear hK K
  try simp only [Act.put]
  try simp only [List.getElem_toArray]
  try simp only [List.getElem_cons_succ]
  try simp only [List.getElem_cons_zero]
  try simp only [List.setIfInBounds_toArray]
  try simp only [List.set_cons_succ, List.set_cons_zero]
  refine wpAnyH_ready (rs := [12]) (by kernel_rfl) (by simp) ?_
  refine AllReadyH.cons rfl (fun K hK => ?_) AllReadyH.nil
  go_simp
  refine (HOv.out _ _ HLv3.out).mono ?_
  rintro e V4 ⟨rfl, hb⟩
  have HLv4 := hide (HLv3.out.up hb)
  clear hb
  refine hK.out _ _ (HLv4.out.lc) (fun hHeld => ?_)
  clear hK K
  try simp only [Act.put]
  try simp only [List.getElem_toArray]
  try simp only [List.getElem_cons_succ]
  try simp only [List.getElem_cons_zero]
  try simp only [List.setIfInBounds_toArray]
  try simp only [List.set_cons_succ, List.set_cons_zero]
  refine wpAnyH_ready (rs := [17]) (by kernel_rfl) (by simp) ?_
  refine AllReadyH.cons rfl (fun K hK => ?_) AllReadyH.nil
  go_simp
  refine (HRe.out _ _ HLv4.out).mono ?_
  rintro e V5 ⟨rfl, hb⟩
  have HLv5 := hide (HLv4.out.up hb)
  clear hb
  refine hK.out _ _ (HLv5.out.lc) (fun hHeld => ?_)
  clear hK K
  try simp only [Act.put]
  try simp only [List.getElem_toArray]
  try simp only [List.getElem_cons_succ]
  try simp only [List.getElem_cons_zero]
  try simp only [List.setIfInBounds_toArray]
  try simp only [List.set_cons_succ, List.set_cons_zero]
  refine wpAnyH_take (i := 18) (v := .pointer (some ⟨B, 0, none⟩)) rfl (by kernel_rfl) (by kernel_rfl) (by kernel_rfl) (fun _ _ _ h => h) (Or.inl ⟨by kernel_rfl, fun w1 hSw => by clear hHeld; have k0 := hSw.c0; have k1 := hSw.c1; have k2 := hSw.c2; have k3 := hSw.c3; have k4 := hSw.c4; go_simp⟩) hHeld ?_
  try simp only [Act.put]
  try simp only [List.getElem_toArray]
  try simp only [List.getElem_cons_succ]
  try simp only [List.getElem_cons_zero]
  try simp only [List.setIfInBounds_toArray]
  try simp only [List.set_cons_succ, List.set_cons_zero]
  refine wpAnyH_take (i := 19) (v := .pointer (some ⟨B, 8, none⟩)) rfl (by kernel_rfl) (by kernel_rfl) (by kernel_rfl) (fun _ _ _ h => h) (Or.inl ⟨by kernel_rfl, fun w1 hSw => by clear hHeld; have k0 := hSw.c0; have k1 := hSw.c1; have k2 := hSw.c2; have k3 := hSw.c3; have k4 := hSw.c4; go_simp⟩) hHeld ?_
  try simp only [Act.put]
  try simp only [List.getElem_toArray]
  try simp only [List.getElem_cons_succ]
  try simp only [List.getElem_cons_zero]
  try simp only [List.setIfInBounds_toArray]
  try simp only [List.set_cons_succ, List.set_cons_zero]
  refine wpAnyH_ready (rs := [20]) (by kernel_rfl) (by simp) ?_
  refine AllReadyH.cons rfl (fun K hK => ?_) AllReadyH.nil
  have hz := blk_z HLv5.out.bx
  obtain ⟨q0, q1, q2, q3, q4, q5, q6, q7, q8, q9, q10, q11, q12, q13, q14, q15, q16, q17, q18, q19⟩ := look_cells HLv5.out.bx
  have hBl := lt_of_block HLv5.out.bx
  have HLv6 : Hid (Lx w a j B #[x0, x1, x2, x3, x4, x5, .int .i64 j.no, .int .i64 j.ba, .int .i64 (j.m.dn : Int), x9, x10, x11, x12, x13, x14, x15, x16, x17, x18, x19] (V5.setCell ⟨B, 8, none⟩ (.int .i64 (j.m.dn : Int)))) := hide (HLv5.out.set 8 _)
  clear hHeld
  go_simp
  obtain ⟨V6, hV⟩ : ∃ V, (V5.setCell ⟨B, 8, none⟩ (.int .i64 (j.m.dn : Int))) = V := ⟨_, rfl⟩
  rw [hV] at HLv6 ⊢
  clear hV hz hBl q0 q1 q2 q3 q4 q5 q6 q7 q8 q9 q10 q11 q12 q13 q14 q15 q16 q17 q18 q19
  refine hK.out _ _ (HLv6.out.lc) (fun hHeld => ?_)
  clear hK K
  try simp only [Act.put]
  try simp only [List.getElem_toArray]
  try simp only [List.getElem_cons_succ]
  try simp only [List.getElem_cons_zero]
  try simp only [List.setIfInBounds_toArray]
  try simp only [List.set_cons_succ, List.set_cons_zero]
  refine wpAnyH_take (i := 21) (v := .pointer (some ⟨B, 0, none⟩)) rfl (by kernel_rfl) (by kernel_rfl) (by kernel_rfl) (fun _ _ _ h => h) (Or.inl ⟨by kernel_rfl, fun w1 hSw => by clear hHeld; have k0 := hSw.c0; have k1 := hSw.c1; have k2 := hSw.c2; have k3 := hSw.c3; have k4 := hSw.c4; go_simp⟩) hHeld ?_
  try simp only [Act.put]
  try simp only [List.getElem_toArray]
  try simp only [List.getElem_cons_succ]
  try simp only [List.getElem_cons_zero]
  try simp only [List.setIfInBounds_toArray]
  try simp only [List.set_cons_succ, List.set_cons_zero]
  refine wpAnyH_take (i := 22) (v := .pointer (some ⟨B, 9, none⟩)) rfl (by kernel_rfl) (by kernel_rfl) (by kernel_rfl) (fun _ _ _ h => h) (Or.inl ⟨by kernel_rfl, fun w1 hSw => by clear hHeld; have k0 := hSw.c0; have k1 := hSw.c1; have k2 := hSw.c2; have k3 := hSw.c3; have k4 := hSw.c4; go_simp⟩) hHeld ?_
  try simp only [Act.put]
  try simp only [List.getElem_toArray]
  try simp only [List.getElem_cons_succ]
  try simp only [List.getElem_cons_zero]
  try simp only [List.setIfInBounds_toArray]
  try simp only [List.set_cons_succ, List.set_cons_zero]
  refine wpAnyH_ready (rs := [23]) (by kernel_rfl) (by simp) ?_
  refine AllReadyH.cons rfl (fun K hK => ?_) AllReadyH.nil
  have hz := blk_z HLv6.out.bx
  obtain ⟨q0, q1, q2, q3, q4, q5, q6, q7, q8, q9, q10, q11, q12, q13, q14, q15, q16, q17, q18, q19⟩ := look_cells HLv6.out.bx
  have hBl := lt_of_block HLv6.out.bx
  have HLv7 : Hid (Lx w a j B #[x0, x1, x2, x3, x4, x5, .int .i64 j.no, .int .i64 j.ba, .int .i64 (j.m.dn : Int), .bool j.m.ov, x10, x11, x12, x13, x14, x15, x16, x17, x18, x19] (V6.setCell ⟨B, 9, none⟩ (.bool j.m.ov))) := hide (HLv6.out.set 9 _)
  clear hHeld
  go_simp
  obtain ⟨V7, hV⟩ : ∃ V, (V6.setCell ⟨B, 9, none⟩ (.bool j.m.ov)) = V := ⟨_, rfl⟩
  rw [hV] at HLv7 ⊢
  clear hV hz hBl q0 q1 q2 q3 q4 q5 q6 q7 q8 q9 q10 q11 q12 q13 q14 q15 q16 q17 q18 q19
  refine hK.out _ _ (HLv7.out.lc) (fun hHeld => ?_)
  clear hK K
  try simp only [Act.put]
  try simp only [List.getElem_toArray]
  try simp only [List.getElem_cons_succ]
  try simp only [List.getElem_cons_zero]
  try simp only [List.setIfInBounds_toArray]
  try simp only [List.set_cons_succ, List.set_cons_zero]
  refine wpAnyH_take (i := 24) (v := .pointer (some ⟨B, 0, none⟩)) rfl (by kernel_rfl) (by kernel_rfl) (by kernel_rfl) (fun _ _ _ h => h) (Or.inl ⟨by kernel_rfl, fun w1 hSw => by clear hHeld; have k0 := hSw.c0; have k1 := hSw.c1; have k2 := hSw.c2; have k3 := hSw.c3; have k4 := hSw.c4; go_simp⟩) hHeld ?_
  try simp only [Act.put]
  try simp only [List.getElem_toArray]
  try simp only [List.getElem_cons_succ]
  try simp only [List.getElem_cons_zero]
  try simp only [List.setIfInBounds_toArray]
  try simp only [List.set_cons_succ, List.set_cons_zero]
  refine wpAnyH_take (i := 25) (v := .pointer (some ⟨B, 10, none⟩)) rfl (by kernel_rfl) (by kernel_rfl) (by kernel_rfl) (fun _ _ _ h => h) (Or.inl ⟨by kernel_rfl, fun w1 hSw => by clear hHeld; have k0 := hSw.c0; have k1 := hSw.c1; have k2 := hSw.c2; have k3 := hSw.c3; have k4 := hSw.c4; go_simp⟩) hHeld ?_
  try simp only [Act.put]
  try simp only [List.getElem_toArray]
  try simp only [List.getElem_cons_succ]
  try simp only [List.getElem_cons_zero]
  try simp only [List.setIfInBounds_toArray]
  try simp only [List.set_cons_succ, List.set_cons_zero]
  refine wpAnyH_ready (rs := [26]) (by kernel_rfl) (by simp) ?_
  refine AllReadyH.cons rfl (fun K hK => ?_) AllReadyH.nil
  have hz := blk_z HLv7.out.bx
  obtain ⟨q0, q1, q2, q3, q4, q5, q6, q7, q8, q9, q10, q11, q12, q13, q14, q15, q16, q17, q18, q19⟩ := look_cells HLv7.out.bx
  have hBl := lt_of_block HLv7.out.bx
  have HLv8 : Hid (Lx w a j B #[x0, x1, x2, x3, x4, x5, .int .i64 j.no, .int .i64 j.ba, .int .i64 (j.m.dn : Int), .bool j.m.ov, .int .i64 (Im.resC j.m : Int), .int .u64 (Im.resB j.m : Int), x12, x13, x14, x15, x16, x17, x18, x19] ((V7.setCell ⟨B, 10, none⟩ (.int .i64 (Im.resC j.m : Int))).setCell ⟨B, 11, none⟩ (.int .u64 (Im.resB j.m : Int)))) := hide ((HLv7.out.set 10 _).set 11 _)
  clear hHeld
  go_simp
  obtain ⟨V8, hV⟩ : ∃ V, ((V7.setCell ⟨B, 10, none⟩ (.int .i64 (Im.resC j.m : Int))).setCell ⟨B, 11, none⟩ (.int .u64 (Im.resB j.m : Int))) = V := ⟨_, rfl⟩
  rw [hV] at HLv8 ⊢
  clear hV hz hBl q0 q1 q2 q3 q4 q5 q6 q7 q8 q9 q10 q11 q12 q13 q14 q15 q16 q17 q18 q19
  refine hK.out _ _ (HLv8.out.lc) (fun hHeld => ?_)
  clear hK K
  try simp only [Act.put]
  try simp only [List.getElem_toArray]
  try simp only [List.getElem_cons_succ]
  try simp only [List.getElem_cons_zero]
  try simp only [List.setIfInBounds_toArray]
  try simp only [List.set_cons_succ, List.set_cons_zero]
  refine wpAnyH_done (by kernel_rfl) ?_ _
  clear hHeld
  go_upto_region 2 with fail
  have HLy2 := hide (HLv8.out.up (below_dr V8 1))
  refine wp_region_held_drew (S := fun V => Lc a j.no j.ba V) (by kernel_rfl) (HLy2.out.lc) (fun hHeld => ?_)
  refine wpAnyH_take (i := 0) (v := .pointer (some ⟨B, 0, none⟩)) rfl (by kernel_rfl) (by kernel_rfl) (by kernel_rfl) (fun _ _ _ h => h) (Or.inl ⟨by kernel_rfl, fun w1 hSw => by clear hHeld; have k0 := hSw.c0; have k1 := hSw.c1; have k2 := hSw.c2; have k3 := hSw.c3; have k4 := hSw.c4; go_simp⟩) hHeld ?_
  try simp only [Act.put]
  try simp only [List.getElem_toArray]
  try simp only [List.getElem_cons_succ]
  try simp only [List.getElem_cons_zero]
  try simp only [List.setIfInBounds_toArray]
  try simp only [List.set_cons_succ, List.set_cons_zero]
  refine wpAnyH_take (i := 1) (v := .pointer (some ⟨B, 0, none⟩)) rfl (by kernel_rfl) (by kernel_rfl) (by kernel_rfl) (fun _ _ _ h => h) (Or.inl ⟨by kernel_rfl, fun w1 hSw => by clear hHeld; have k0 := hSw.c0; have k1 := hSw.c1; have k2 := hSw.c2; have k3 := hSw.c3; have k4 := hSw.c4; go_simp⟩) hHeld ?_
  try simp only [Act.put]
  try simp only [List.getElem_toArray]
  try simp only [List.getElem_cons_succ]
  try simp only [List.getElem_cons_zero]
  try simp only [List.setIfInBounds_toArray]
  try simp only [List.set_cons_succ, List.set_cons_zero]
  refine wpAnyH_take (i := 2) (v := .pointer (some ⟨B, 0, none⟩)) rfl (by kernel_rfl) (by kernel_rfl) (by kernel_rfl) (fun _ _ _ h => h) (Or.inl ⟨by kernel_rfl, fun w1 hSw => by clear hHeld; have k0 := hSw.c0; have k1 := hSw.c1; have k2 := hSw.c2; have k3 := hSw.c3; have k4 := hSw.c4; go_simp⟩) hHeld ?_
  try simp only [Act.put]
  try simp only [List.getElem_toArray]
  try simp only [List.getElem_cons_succ]
  try simp only [List.getElem_cons_zero]
  try simp only [List.setIfInBounds_toArray]
  try simp only [List.set_cons_succ, List.set_cons_zero]
  refine wpAnyH_take (i := 3) (v := .pointer (some ⟨B, 0, none⟩)) rfl (by kernel_rfl) (by kernel_rfl) (by kernel_rfl) (fun _ _ _ h => h) (Or.inl ⟨by kernel_rfl, fun w1 hSw => by clear hHeld; have k0 := hSw.c0; have k1 := hSw.c1; have k2 := hSw.c2; have k3 := hSw.c3; have k4 := hSw.c4; go_simp⟩) hHeld ?_
  try simp only [Act.put]
  try simp only [List.getElem_toArray]
  try simp only [List.getElem_cons_succ]
  try simp only [List.getElem_cons_zero]
  try simp only [List.setIfInBounds_toArray]
  try simp only [List.set_cons_succ, List.set_cons_zero]
  refine wpAnyH_take (i := 4) (v := .pointer (some ⟨a.J, 0, none⟩)) rfl (by kernel_rfl) (by kernel_rfl) (by kernel_rfl) (fun _ _ _ h => h) (Or.inl ⟨by kernel_rfl, fun w1 hSw => by clear hHeld; have k0 := hSw.c0; have k1 := hSw.c1; have k2 := hSw.c2; have k3 := hSw.c3; have k4 := hSw.c4; go_simp⟩) hHeld ?_
  try simp only [Act.put]
  try simp only [List.getElem_toArray]
  try simp only [List.getElem_cons_succ]
  try simp only [List.getElem_cons_zero]
  try simp only [List.setIfInBounds_toArray]
  try simp only [List.set_cons_succ, List.set_cons_zero]
  refine wpAnyH_take (i := 5) (v := .pointer (some ⟨a.J, 0, none⟩)) rfl (by kernel_rfl) (by kernel_rfl) (by kernel_rfl) (fun _ _ _ h => h) (Or.inl ⟨by kernel_rfl, fun w1 hSw => by clear hHeld; have k0 := hSw.c0; have k1 := hSw.c1; have k2 := hSw.c2; have k3 := hSw.c3; have k4 := hSw.c4; go_simp⟩) hHeld ?_
  try simp only [Act.put]
  try simp only [List.getElem_toArray]
  try simp only [List.getElem_cons_succ]
  try simp only [List.getElem_cons_zero]
  try simp only [List.setIfInBounds_toArray]
  try simp only [List.set_cons_succ, List.set_cons_zero]
  refine wpAnyH_take (i := 6) (v := .pointer (some ⟨a.J, 3, none⟩)) rfl (by kernel_rfl) (by kernel_rfl) (by kernel_rfl) (fun _ _ _ h => h) (Or.inl ⟨by kernel_rfl, fun w1 hSw => by clear hHeld; have k0 := hSw.c0; have k1 := hSw.c1; have k2 := hSw.c2; have k3 := hSw.c3; have k4 := hSw.c4; go_simp⟩) hHeld ?_
  try simp only [Act.put]
  try simp only [List.getElem_toArray]
  try simp only [List.getElem_cons_succ]
  try simp only [List.getElem_cons_zero]
  try simp only [List.setIfInBounds_toArray]
  try simp only [List.set_cons_succ, List.set_cons_zero]
  refine wpAnyH_take (i := 7) (v := .pointer (some ⟨a.L, 0, none⟩)) rfl (by kernel_rfl) (by kernel_rfl) (by kernel_rfl) (fun _ _ _ h => h) (Or.inl ⟨by kernel_rfl, fun w1 hSw => by clear hHeld; have k0 := hSw.c0; have k1 := hSw.c1; have k2 := hSw.c2; have k3 := hSw.c3; have k4 := hSw.c4; go_simp⟩) hHeld ?_
  try simp only [Act.put]
  try simp only [List.getElem_toArray]
  try simp only [List.getElem_cons_succ]
  try simp only [List.getElem_cons_zero]
  try simp only [List.setIfInBounds_toArray]
  try simp only [List.set_cons_succ, List.set_cons_zero]
  refine wpAnyH_take (i := 9) (v := .pointer (some ⟨a.J, 0, none⟩)) rfl (by kernel_rfl) (by kernel_rfl) (by kernel_rfl) (fun _ _ _ h => h) (Or.inl ⟨by kernel_rfl, fun w1 hSw => by clear hHeld; have k0 := hSw.c0; have k1 := hSw.c1; have k2 := hSw.c2; have k3 := hSw.c3; have k4 := hSw.c4; go_simp⟩) hHeld ?_
  try simp only [Act.put]
  try simp only [List.getElem_toArray]
  try simp only [List.getElem_cons_succ]
  try simp only [List.getElem_cons_zero]
  try simp only [List.setIfInBounds_toArray]
  try simp only [List.set_cons_succ, List.set_cons_zero]
  refine wpAnyH_take (i := 10) (v := .pointer (some ⟨a.J, 0, none⟩)) rfl (by kernel_rfl) (by kernel_rfl) (by kernel_rfl) (fun _ _ _ h => h) (Or.inl ⟨by kernel_rfl, fun w1 hSw => by clear hHeld; have k0 := hSw.c0; have k1 := hSw.c1; have k2 := hSw.c2; have k3 := hSw.c3; have k4 := hSw.c4; go_simp⟩) hHeld ?_
  try simp only [Act.put]
  try simp only [List.getElem_toArray]
  try simp only [List.getElem_cons_succ]
  try simp only [List.getElem_cons_zero]
  try simp only [List.setIfInBounds_toArray]
  try simp only [List.set_cons_succ, List.set_cons_zero]
  refine wpAnyH_take (i := 11) (v := .pointer (some ⟨a.J, 3, none⟩)) rfl (by kernel_rfl) (by kernel_rfl) (by kernel_rfl) (fun _ _ _ h => h) (Or.inl ⟨by kernel_rfl, fun w1 hSw => by clear hHeld; have k0 := hSw.c0; have k1 := hSw.c1; have k2 := hSw.c2; have k3 := hSw.c3; have k4 := hSw.c4; go_simp⟩) hHeld ?_
  try simp only [Act.put]
  try simp only [List.getElem_toArray]
  try simp only [List.getElem_cons_succ]
  try simp only [List.getElem_cons_zero]
  try simp only [List.setIfInBounds_toArray]
  try simp only [List.set_cons_succ, List.set_cons_zero]
  refine wpAnyH_take (i := 12) (v := .pointer (some ⟨a.L, 0, none⟩)) rfl (by kernel_rfl) (by kernel_rfl) (by kernel_rfl) (fun _ _ _ h => h) (Or.inl ⟨by kernel_rfl, fun w1 hSw => by clear hHeld; have k0 := hSw.c0; have k1 := hSw.c1; have k2 := hSw.c2; have k3 := hSw.c3; have k4 := hSw.c4; go_simp⟩) hHeld ?_
  try simp only [Act.put]
  try simp only [List.getElem_toArray]
  try simp only [List.getElem_cons_succ]
  try simp only [List.getElem_cons_zero]
  try simp only [List.setIfInBounds_toArray]
  try simp only [List.set_cons_succ, List.set_cons_zero]
  refine wpAnyH_take (i := 14) (v := .pointer (some ⟨a.J, 0, none⟩)) rfl (by kernel_rfl) (by kernel_rfl) (by kernel_rfl) (fun _ _ _ h => h) (Or.inl ⟨by kernel_rfl, fun w1 hSw => by clear hHeld; have k0 := hSw.c0; have k1 := hSw.c1; have k2 := hSw.c2; have k3 := hSw.c3; have k4 := hSw.c4; go_simp⟩) hHeld ?_
  try simp only [Act.put]
  try simp only [List.getElem_toArray]
  try simp only [List.getElem_cons_succ]
  try simp only [List.getElem_cons_zero]
  try simp only [List.setIfInBounds_toArray]
  try simp only [List.set_cons_succ, List.set_cons_zero]
  refine wpAnyH_take (i := 15) (v := .pointer (some ⟨a.J, 0, none⟩)) rfl (by kernel_rfl) (by kernel_rfl) (by kernel_rfl) (fun _ _ _ h => h) (Or.inl ⟨by kernel_rfl, fun w1 hSw => by clear hHeld; have k0 := hSw.c0; have k1 := hSw.c1; have k2 := hSw.c2; have k3 := hSw.c3; have k4 := hSw.c4; go_simp⟩) hHeld ?_
  try simp only [Act.put]
  try simp only [List.getElem_toArray]
  try simp only [List.getElem_cons_succ]
  try simp only [List.getElem_cons_zero]
  try simp only [List.setIfInBounds_toArray]
  try simp only [List.set_cons_succ, List.set_cons_zero]
  refine wpAnyH_take (i := 16) (v := .pointer (some ⟨a.J, 3, none⟩)) rfl (by kernel_rfl) (by kernel_rfl) (by kernel_rfl) (fun _ _ _ h => h) (Or.inl ⟨by kernel_rfl, fun w1 hSw => by clear hHeld; have k0 := hSw.c0; have k1 := hSw.c1; have k2 := hSw.c2; have k3 := hSw.c3; have k4 := hSw.c4; go_simp⟩) hHeld ?_
  try simp only [Act.put]
  try simp only [List.getElem_toArray]
  try simp only [List.getElem_cons_succ]
  try simp only [List.getElem_cons_zero]
  try simp only [List.setIfInBounds_toArray]
  try simp only [List.set_cons_succ, List.set_cons_zero]
  refine wpAnyH_take (i := 17) (v := .pointer (some ⟨a.L, 0, none⟩)) rfl (by kernel_rfl) (by kernel_rfl) (by kernel_rfl) (fun _ _ _ h => h) (Or.inl ⟨by kernel_rfl, fun w1 hSw => by clear hHeld; have k0 := hSw.c0; have k1 := hSw.c1; have k2 := hSw.c2; have k3 := hSw.c3; have k4 := hSw.c4; go_simp⟩) hHeld ?_
  try simp only [Act.put]
  try simp only [List.getElem_toArray]
  try simp only [List.getElem_cons_succ]
  try simp only [List.getElem_cons_zero]
  try simp only [List.setIfInBounds_toArray]
  try simp only [List.set_cons_succ, List.set_cons_zero]
  refine wpAnyH_take (i := 19) (v := .pointer (some ⟨a.J, 0, none⟩)) rfl (by kernel_rfl) (by kernel_rfl) (by kernel_rfl) (fun _ _ _ h => h) (Or.inl ⟨by kernel_rfl, fun w1 hSw => by clear hHeld; have k0 := hSw.c0; have k1 := hSw.c1; have k2 := hSw.c2; have k3 := hSw.c3; have k4 := hSw.c4; go_simp⟩) hHeld ?_
  try simp only [Act.put]
  try simp only [List.getElem_toArray]
  try simp only [List.getElem_cons_succ]
  try simp only [List.getElem_cons_zero]
  try simp only [List.setIfInBounds_toArray]
  try simp only [List.set_cons_succ, List.set_cons_zero]
  refine wpAnyH_take (i := 20) (v := .pointer (some ⟨a.J, 0, none⟩)) rfl (by kernel_rfl) (by kernel_rfl) (by kernel_rfl) (fun _ _ _ h => h) (Or.inl ⟨by kernel_rfl, fun w1 hSw => by clear hHeld; have k0 := hSw.c0; have k1 := hSw.c1; have k2 := hSw.c2; have k3 := hSw.c3; have k4 := hSw.c4; go_simp⟩) hHeld ?_
  try simp only [Act.put]
  try simp only [List.getElem_toArray]
  try simp only [List.getElem_cons_succ]
  try simp only [List.getElem_cons_zero]
  try simp only [List.setIfInBounds_toArray]
  try simp only [List.set_cons_succ, List.set_cons_zero]
  refine wpAnyH_take (i := 21) (v := .pointer (some ⟨a.J, 3, none⟩)) rfl (by kernel_rfl) (by kernel_rfl) (by kernel_rfl) (fun _ _ _ h => h) (Or.inl ⟨by kernel_rfl, fun w1 hSw => by clear hHeld; have k0 := hSw.c0; have k1 := hSw.c1; have k2 := hSw.c2; have k3 := hSw.c3; have k4 := hSw.c4; go_simp⟩) hHeld ?_
  try simp only [Act.put]
  try simp only [List.getElem_toArray]
  try simp only [List.getElem_cons_succ]
  try simp only [List.getElem_cons_zero]
  try simp only [List.setIfInBounds_toArray]
  try simp only [List.set_cons_succ, List.set_cons_zero]
  refine wpAnyH_take (i := 22) (v := .pointer (some ⟨a.L, 0, none⟩)) rfl (by kernel_rfl) (by kernel_rfl) (by kernel_rfl) (fun _ _ _ h => h) (Or.inl ⟨by kernel_rfl, fun w1 hSw => by clear hHeld; have k0 := hSw.c0; have k1 := hSw.c1; have k2 := hSw.c2; have k3 := hSw.c3; have k4 := hSw.c4; go_simp⟩) hHeld ?_
  try simp only [Act.put]
  try simp only [List.getElem_toArray]
  try simp only [List.getElem_cons_succ]
  try simp only [List.getElem_cons_zero]
  try simp only [List.setIfInBounds_toArray]
  try simp only [List.set_cons_succ, List.set_cons_zero]
  refine wpAnyH_ready (rs := [8]) (by kernel_rfl) (by simp) ?_
  refine AllReadyH.cons rfl (fun K hK => ?_) AllReadyH.nil
  go_simp
  refine (HL1.out _ _ HLy2.out).mono ?_
  rintro e V9 ⟨rfl, hb⟩
  have HLv9 := hide (HLy2.out.up hb)
  clear hb
  refine hK.out _ _ (HLv9.out.lc) (fun hHeld => ?_)
  clear hK K
  try simp only [Act.put]
  try simp only [List.getElem_toArray]
  try simp only [List.getElem_cons_succ]
  try simp only [List.getElem_cons_zero]
  try simp only [List.setIfInBounds_toArray]
  try simp only [List.set_cons_succ, List.set_cons_zero]
  refine wpAnyH_ready (rs := [13]) (by kernel_rfl) (by simp) ?_
  refine AllReadyH.cons rfl (fun K hK => ?_) AllReadyH.nil
  go_simp
  refine (HA1.out _ _ HLv9.out).mono ?_
  rintro e V10 ⟨rfl, hb⟩
  have HLv10 := hide (HLv9.out.up hb)
  clear hb
  refine hK.out _ _ (HLv10.out.lc) (fun hHeld => ?_)
  clear hK K
  try simp only [Act.put]
  try simp only [List.getElem_toArray]
  try simp only [List.getElem_cons_succ]
  try simp only [List.getElem_cons_zero]
  try simp only [List.setIfInBounds_toArray]
  try simp only [List.set_cons_succ, List.set_cons_zero]
  refine wpAnyH_ready (rs := [18]) (by kernel_rfl) (by simp) ?_
  refine AllReadyH.cons rfl (fun K hK => ?_) AllReadyH.nil
  go_simp
  refine (HS1.out _ _ HLv10.out).mono ?_
  rintro e V11 ⟨rfl, hb⟩
  have HLv11 := hide (HLv10.out.up hb)
  clear hb
  refine hK.out _ _ (HLv11.out.lc) (fun hHeld => ?_)
  clear hK K
  try simp only [Act.put]
  try simp only [List.getElem_toArray]
  try simp only [List.getElem_cons_succ]
  try simp only [List.getElem_cons_zero]
  try simp only [List.setIfInBounds_toArray]
  try simp only [List.set_cons_succ, List.set_cons_zero]
  refine wpAnyH_ready (rs := [23]) (by kernel_rfl) (by simp) ?_
  refine AllReadyH.cons rfl (fun K hK => ?_) AllReadyH.nil
  go_simp
  refine (HT1.out _ _ HLv11.out).mono ?_
  rintro e V12 ⟨rfl, hb⟩
  have HLv12 := hide (HLv11.out.up hb)
  clear hb
  refine hK.out _ _ (HLv12.out.lc) (fun hHeld => ?_)
  clear hK K
  try simp only [Act.put]
  try simp only [List.getElem_toArray]
  try simp only [List.getElem_cons_succ]
  try simp only [List.getElem_cons_zero]
  try simp only [List.setIfInBounds_toArray]
  try simp only [List.set_cons_succ, List.set_cons_zero]
  refine wpAnyH_take (i := 24) (v := .pointer (some ⟨B, 0, none⟩)) rfl (by kernel_rfl) (by kernel_rfl) (by kernel_rfl) (fun _ _ _ h => h) (Or.inl ⟨by kernel_rfl, fun w1 hSw => by clear hHeld; have k0 := hSw.c0; have k1 := hSw.c1; have k2 := hSw.c2; have k3 := hSw.c3; have k4 := hSw.c4; go_simp⟩) hHeld ?_
  try simp only [Act.put]
  try simp only [List.getElem_toArray]
  try simp only [List.getElem_cons_succ]
  try simp only [List.getElem_cons_zero]
  try simp only [List.setIfInBounds_toArray]
  try simp only [List.set_cons_succ, List.set_cons_zero]
  refine wpAnyH_take (i := 25) (v := .pointer (some ⟨B, 12, none⟩)) rfl (by kernel_rfl) (by kernel_rfl) (by kernel_rfl) (fun _ _ _ h => h) (Or.inl ⟨by kernel_rfl, fun w1 hSw => by clear hHeld; have k0 := hSw.c0; have k1 := hSw.c1; have k2 := hSw.c2; have k3 := hSw.c3; have k4 := hSw.c4; go_simp⟩) hHeld ?_
  try simp only [Act.put]
  try simp only [List.getElem_toArray]
  try simp only [List.getElem_cons_succ]
  try simp only [List.getElem_cons_zero]
  try simp only [List.setIfInBounds_toArray]
  try simp only [List.set_cons_succ, List.set_cons_zero]
  refine wpAnyH_ready (rs := [26]) (by kernel_rfl) (by simp) ?_
  refine AllReadyH.cons rfl (fun K hK => ?_) AllReadyH.nil
  have hz := blk_z HLv12.out.bx
  obtain ⟨q0, q1, q2, q3, q4, q5, q6, q7, q8, q9, q10, q11, q12, q13, q14, q15, q16, q17, q18, q19⟩ := look_cells HLv12.out.bx
  have hBl := lt_of_block HLv12.out.bx
  have HLv13 : Hid (Lx w a j B #[x0, x1, x2, x3, x4, x5, .int .i64 j.no, .int .i64 j.ba, .int .i64 (j.m.dn : Int), .bool j.m.ov, .int .i64 (Im.resC j.m : Int), .int .u64 (Im.resB j.m : Int), .int .i64 (j.lg.len : Int), x13, x14, x15, x16, x17, x18, x19] (V12.setCell ⟨B, 12, none⟩ (.int .i64 (j.lg.len : Int)))) := hide (HLv12.out.set 12 _)
  clear hHeld
  go_simp
  obtain ⟨V13, hV⟩ : ∃ V, (V12.setCell ⟨B, 12, none⟩ (.int .i64 (j.lg.len : Int))) = V := ⟨_, rfl⟩
  rw [hV] at HLv13 ⊢
  clear hV hz hBl q0 q1 q2 q3 q4 q5 q6 q7 q8 q9 q10 q11 q12 q13 q14 q15 q16 q17 q18 q19
  refine hK.out _ _ (HLv13.out.lc) (fun hHeld => ?_)
  clear hK K
  try simp only [Act.put]
  try simp only [List.getElem_toArray]
  try simp only [List.getElem_cons_succ]
  try simp only [List.getElem_cons_zero]
  try simp only [List.setIfInBounds_toArray]
  try simp only [List.set_cons_succ, List.set_cons_zero]
  refine wpAnyH_take (i := 27) (v := .pointer (some ⟨B, 0, none⟩)) rfl (by kernel_rfl) (by kernel_rfl) (by kernel_rfl) (fun _ _ _ h => h) (Or.inl ⟨by kernel_rfl, fun w1 hSw => by clear hHeld; have k0 := hSw.c0; have k1 := hSw.c1; have k2 := hSw.c2; have k3 := hSw.c3; have k4 := hSw.c4; go_simp⟩) hHeld ?_
  try simp only [Act.put]
  try simp only [List.getElem_toArray]
  try simp only [List.getElem_cons_succ]
  try simp only [List.getElem_cons_zero]
  try simp only [List.setIfInBounds_toArray]
  try simp only [List.set_cons_succ, List.set_cons_zero]
  refine wpAnyH_take (i := 28) (v := .pointer (some ⟨B, 13, none⟩)) rfl (by kernel_rfl) (by kernel_rfl) (by kernel_rfl) (fun _ _ _ h => h) (Or.inl ⟨by kernel_rfl, fun w1 hSw => by clear hHeld; have k0 := hSw.c0; have k1 := hSw.c1; have k2 := hSw.c2; have k3 := hSw.c3; have k4 := hSw.c4; go_simp⟩) hHeld ?_
  try simp only [Act.put]
  try simp only [List.getElem_toArray]
  try simp only [List.getElem_cons_succ]
  try simp only [List.getElem_cons_zero]
  try simp only [List.setIfInBounds_toArray]
  try simp only [List.set_cons_succ, List.set_cons_zero]
  refine wpAnyH_ready (rs := [29]) (by kernel_rfl) (by simp) ?_
  refine AllReadyH.cons rfl (fun K hK => ?_) AllReadyH.nil
  have hz := blk_z HLv13.out.bx
  obtain ⟨q0, q1, q2, q3, q4, q5, q6, q7, q8, q9, q10, q11, q12, q13, q14, q15, q16, q17, q18, q19⟩ := look_cells HLv13.out.bx
  have hBl := lt_of_block HLv13.out.bx
  have HLv14 : Hid (Lx w a j B #[x0, x1, x2, x3, x4, x5, .int .i64 j.no, .int .i64 j.ba, .int .i64 (j.m.dn : Int), .bool j.m.ov, .int .i64 (Im.resC j.m : Int), .int .u64 (Im.resB j.m : Int), .int .i64 (j.lg.len : Int), .int .i64 (j.lg.go : Int), x14, x15, x16, x17, x18, x19] (V13.setCell ⟨B, 13, none⟩ (.int .i64 (j.lg.go : Int)))) := hide (HLv13.out.set 13 _)
  clear hHeld
  go_simp
  obtain ⟨V14, hV⟩ : ∃ V, (V13.setCell ⟨B, 13, none⟩ (.int .i64 (j.lg.go : Int))) = V := ⟨_, rfl⟩
  rw [hV] at HLv14 ⊢
  clear hV hz hBl q0 q1 q2 q3 q4 q5 q6 q7 q8 q9 q10 q11 q12 q13 q14 q15 q16 q17 q18 q19
  refine hK.out _ _ (HLv14.out.lc) (fun hHeld => ?_)
  clear hK K
  try simp only [Act.put]
  try simp only [List.getElem_toArray]
  try simp only [List.getElem_cons_succ]
  try simp only [List.getElem_cons_zero]
  try simp only [List.setIfInBounds_toArray]
  try simp only [List.set_cons_succ, List.set_cons_zero]
  refine wpAnyH_take (i := 30) (v := .pointer (some ⟨B, 0, none⟩)) rfl (by kernel_rfl) (by kernel_rfl) (by kernel_rfl) (fun _ _ _ h => h) (Or.inl ⟨by kernel_rfl, fun w1 hSw => by clear hHeld; have k0 := hSw.c0; have k1 := hSw.c1; have k2 := hSw.c2; have k3 := hSw.c3; have k4 := hSw.c4; go_simp⟩) hHeld ?_
  try simp only [Act.put]
  try simp only [List.getElem_toArray]
  try simp only [List.getElem_cons_succ]
  try simp only [List.getElem_cons_zero]
  try simp only [List.setIfInBounds_toArray]
  try simp only [List.set_cons_succ, List.set_cons_zero]
  refine wpAnyH_take (i := 31) (v := .pointer (some ⟨B, 14, none⟩)) rfl (by kernel_rfl) (by kernel_rfl) (by kernel_rfl) (fun _ _ _ h => h) (Or.inl ⟨by kernel_rfl, fun w1 hSw => by clear hHeld; have k0 := hSw.c0; have k1 := hSw.c1; have k2 := hSw.c2; have k3 := hSw.c3; have k4 := hSw.c4; go_simp⟩) hHeld ?_
  try simp only [Act.put]
  try simp only [List.getElem_toArray]
  try simp only [List.getElem_cons_succ]
  try simp only [List.getElem_cons_zero]
  try simp only [List.setIfInBounds_toArray]
  try simp only [List.set_cons_succ, List.set_cons_zero]
  refine wpAnyH_ready (rs := [32]) (by kernel_rfl) (by simp) ?_
  refine AllReadyH.cons rfl (fun K hK => ?_) AllReadyH.nil
  have hz := blk_z HLv14.out.bx
  obtain ⟨q0, q1, q2, q3, q4, q5, q6, q7, q8, q9, q10, q11, q12, q13, q14, q15, q16, q17, q18, q19⟩ := look_cells HLv14.out.bx
  have hBl := lt_of_block HLv14.out.bx
  have HLv15 : Hid (Lx w a j B #[x0, x1, x2, x3, x4, x5, .int .i64 j.no, .int .i64 j.ba, .int .i64 (j.m.dn : Int), .bool j.m.ov, .int .i64 (Im.resC j.m : Int), .int .u64 (Im.resB j.m : Int), .int .i64 (j.lg.len : Int), .int .i64 (j.lg.go : Int), .int .i64 (j.lg.said : Int), x15, x16, x17, x18, x19] (V14.setCell ⟨B, 14, none⟩ (.int .i64 (j.lg.said : Int)))) := hide (HLv14.out.set 14 _)
  clear hHeld
  go_simp
  obtain ⟨V15, hV⟩ : ∃ V, (V14.setCell ⟨B, 14, none⟩ (.int .i64 (j.lg.said : Int))) = V := ⟨_, rfl⟩
  rw [hV] at HLv15 ⊢
  clear hV hz hBl q0 q1 q2 q3 q4 q5 q6 q7 q8 q9 q10 q11 q12 q13 q14 q15 q16 q17 q18 q19
  refine hK.out _ _ (HLv15.out.lc) (fun hHeld => ?_)
  clear hK K
  try simp only [Act.put]
  try simp only [List.getElem_toArray]
  try simp only [List.getElem_cons_succ]
  try simp only [List.getElem_cons_zero]
  try simp only [List.setIfInBounds_toArray]
  try simp only [List.set_cons_succ, List.set_cons_zero]
  refine wpAnyH_take (i := 33) (v := .pointer (some ⟨B, 0, none⟩)) rfl (by kernel_rfl) (by kernel_rfl) (by kernel_rfl) (fun _ _ _ h => h) (Or.inl ⟨by kernel_rfl, fun w1 hSw => by clear hHeld; have k0 := hSw.c0; have k1 := hSw.c1; have k2 := hSw.c2; have k3 := hSw.c3; have k4 := hSw.c4; go_simp⟩) hHeld ?_
  try simp only [Act.put]
  try simp only [List.getElem_toArray]
  try simp only [List.getElem_cons_succ]
  try simp only [List.getElem_cons_zero]
  try simp only [List.setIfInBounds_toArray]
  try simp only [List.set_cons_succ, List.set_cons_zero]
  refine wpAnyH_take (i := 34) (v := .pointer (some ⟨B, 15, none⟩)) rfl (by kernel_rfl) (by kernel_rfl) (by kernel_rfl) (fun _ _ _ h => h) (Or.inl ⟨by kernel_rfl, fun w1 hSw => by clear hHeld; have k0 := hSw.c0; have k1 := hSw.c1; have k2 := hSw.c2; have k3 := hSw.c3; have k4 := hSw.c4; go_simp⟩) hHeld ?_
  try simp only [Act.put]
  try simp only [List.getElem_toArray]
  try simp only [List.getElem_cons_succ]
  try simp only [List.getElem_cons_zero]
  try simp only [List.setIfInBounds_toArray]
  try simp only [List.set_cons_succ, List.set_cons_zero]
  refine wpAnyH_ready (rs := [35]) (by kernel_rfl) (by simp) ?_
  refine AllReadyH.cons rfl (fun K hK => ?_) AllReadyH.nil
  have hz := blk_z HLv15.out.bx
  obtain ⟨q0, q1, q2, q3, q4, q5, q6, q7, q8, q9, q10, q11, q12, q13, q14, q15, q16, q17, q18, q19⟩ := look_cells HLv15.out.bx
  have hBl := lt_of_block HLv15.out.bx
  have HLv16 : Hid (Lx w a j B #[x0, x1, x2, x3, x4, x5, .int .i64 j.no, .int .i64 j.ba, .int .i64 (j.m.dn : Int), .bool j.m.ov, .int .i64 (Im.resC j.m : Int), .int .u64 (Im.resB j.m : Int), .int .i64 (j.lg.len : Int), .int .i64 (j.lg.go : Int), .int .i64 (j.lg.said : Int), .int .i64 (j.lg.ti : Int), x16, x17, x18, x19] (V15.setCell ⟨B, 15, none⟩ (.int .i64 (j.lg.ti : Int)))) := hide (HLv15.out.set 15 _)
  clear hHeld
  go_simp
  obtain ⟨V16, hV⟩ : ∃ V, (V15.setCell ⟨B, 15, none⟩ (.int .i64 (j.lg.ti : Int))) = V := ⟨_, rfl⟩
  rw [hV] at HLv16 ⊢
  clear hV hz hBl q0 q1 q2 q3 q4 q5 q6 q7 q8 q9 q10 q11 q12 q13 q14 q15 q16 q17 q18 q19
  refine hK.out _ _ (HLv16.out.lc) (fun hHeld => ?_)
  clear hK K
  try simp only [Act.put]
  try simp only [List.getElem_toArray]
  try simp only [List.getElem_cons_succ]
  try simp only [List.getElem_cons_zero]
  try simp only [List.setIfInBounds_toArray]
  try simp only [List.set_cons_succ, List.set_cons_zero]
  refine wpAnyH_done (by kernel_rfl) ?_ _
  clear hHeld
  go_upto_region 3 with fail
  have HLy3 := hide (HLv16.out.up (below_dr V16 1))
  refine wp_region_held_drew (S := fun V => Lc a j.no j.ba V) (by kernel_rfl) (HLy3.out.lc) (fun hHeld => ?_)
  refine wpAnyH_take (i := 0) (v := .pointer (some ⟨B, 0, none⟩)) rfl (by kernel_rfl) (by kernel_rfl) (by kernel_rfl) (fun _ _ _ h => h) (Or.inl ⟨by kernel_rfl, fun w1 hSw => by clear hHeld; have k0 := hSw.c0; have k1 := hSw.c1; have k2 := hSw.c2; have k3 := hSw.c3; have k4 := hSw.c4; go_simp⟩) hHeld ?_
  try simp only [Act.put]
  try simp only [List.getElem_toArray]
  try simp only [List.getElem_cons_succ]
  try simp only [List.getElem_cons_zero]
  try simp only [List.setIfInBounds_toArray]
  try simp only [List.set_cons_succ, List.set_cons_zero]
  refine wpAnyH_take (i := 1) (v := .pointer (some ⟨B, 0, none⟩)) rfl (by kernel_rfl) (by kernel_rfl) (by kernel_rfl) (fun _ _ _ h => h) (Or.inl ⟨by kernel_rfl, fun w1 hSw => by clear hHeld; have k0 := hSw.c0; have k1 := hSw.c1; have k2 := hSw.c2; have k3 := hSw.c3; have k4 := hSw.c4; go_simp⟩) hHeld ?_
  try simp only [Act.put]
  try simp only [List.getElem_toArray]
  try simp only [List.getElem_cons_succ]
  try simp only [List.getElem_cons_zero]
  try simp only [List.setIfInBounds_toArray]
  try simp only [List.set_cons_succ, List.set_cons_zero]
  refine wpAnyH_take (i := 2) (v := .pointer (some ⟨B, 0, none⟩)) rfl (by kernel_rfl) (by kernel_rfl) (by kernel_rfl) (fun _ _ _ h => h) (Or.inl ⟨by kernel_rfl, fun w1 hSw => by clear hHeld; have k0 := hSw.c0; have k1 := hSw.c1; have k2 := hSw.c2; have k3 := hSw.c3; have k4 := hSw.c4; go_simp⟩) hHeld ?_
  try simp only [Act.put]
  try simp only [List.getElem_toArray]
  try simp only [List.getElem_cons_succ]
  try simp only [List.getElem_cons_zero]
  try simp only [List.setIfInBounds_toArray]
  try simp only [List.set_cons_succ, List.set_cons_zero]
  refine wpAnyH_take (i := 3) (v := .pointer (some ⟨B, 0, none⟩)) rfl (by kernel_rfl) (by kernel_rfl) (by kernel_rfl) (fun _ _ _ h => h) (Or.inl ⟨by kernel_rfl, fun w1 hSw => by clear hHeld; have k0 := hSw.c0; have k1 := hSw.c1; have k2 := hSw.c2; have k3 := hSw.c3; have k4 := hSw.c4; go_simp⟩) hHeld ?_
  try simp only [Act.put]
  try simp only [List.getElem_toArray]
  try simp only [List.getElem_cons_succ]
  try simp only [List.getElem_cons_zero]
  try simp only [List.setIfInBounds_toArray]
  try simp only [List.set_cons_succ, List.set_cons_zero]
  refine wpAnyH_take (i := 4) (v := .pointer (some ⟨a.J, 0, none⟩)) rfl (by kernel_rfl) (by kernel_rfl) (by kernel_rfl) (fun _ _ _ h => h) (Or.inl ⟨by kernel_rfl, fun w1 hSw => by clear hHeld; have k0 := hSw.c0; have k1 := hSw.c1; have k2 := hSw.c2; have k3 := hSw.c3; have k4 := hSw.c4; go_simp⟩) hHeld ?_
  try simp only [Act.put]
  try simp only [List.getElem_toArray]
  try simp only [List.getElem_cons_succ]
  try simp only [List.getElem_cons_zero]
  try simp only [List.setIfInBounds_toArray]
  try simp only [List.set_cons_succ, List.set_cons_zero]
  refine wpAnyH_take (i := 5) (v := .pointer (some ⟨a.J, 0, none⟩)) rfl (by kernel_rfl) (by kernel_rfl) (by kernel_rfl) (fun _ _ _ h => h) (Or.inl ⟨by kernel_rfl, fun w1 hSw => by clear hHeld; have k0 := hSw.c0; have k1 := hSw.c1; have k2 := hSw.c2; have k3 := hSw.c3; have k4 := hSw.c4; go_simp⟩) hHeld ?_
  try simp only [Act.put]
  try simp only [List.getElem_toArray]
  try simp only [List.getElem_cons_succ]
  try simp only [List.getElem_cons_zero]
  try simp only [List.setIfInBounds_toArray]
  try simp only [List.set_cons_succ, List.set_cons_zero]
  refine wpAnyH_take (i := 6) (v := .pointer (some ⟨a.J, 4, none⟩)) rfl (by kernel_rfl) (by kernel_rfl) (by kernel_rfl) (fun _ _ _ h => h) (Or.inl ⟨by kernel_rfl, fun w1 hSw => by clear hHeld; have k0 := hSw.c0; have k1 := hSw.c1; have k2 := hSw.c2; have k3 := hSw.c3; have k4 := hSw.c4; go_simp⟩) hHeld ?_
  try simp only [Act.put]
  try simp only [List.getElem_toArray]
  try simp only [List.getElem_cons_succ]
  try simp only [List.getElem_cons_zero]
  try simp only [List.setIfInBounds_toArray]
  try simp only [List.set_cons_succ, List.set_cons_zero]
  refine wpAnyH_take (i := 7) (v := .pointer (some ⟨a.A, 0, none⟩)) rfl (by kernel_rfl) (by kernel_rfl) (by kernel_rfl) (fun _ _ _ h => h) (Or.inl ⟨by kernel_rfl, fun w1 hSw => by clear hHeld; have k0 := hSw.c0; have k1 := hSw.c1; have k2 := hSw.c2; have k3 := hSw.c3; have k4 := hSw.c4; go_simp⟩) hHeld ?_
  try simp only [Act.put]
  try simp only [List.getElem_toArray]
  try simp only [List.getElem_cons_succ]
  try simp only [List.getElem_cons_zero]
  try simp only [List.setIfInBounds_toArray]
  try simp only [List.set_cons_succ, List.set_cons_zero]
  refine wpAnyH_take (i := 9) (v := .pointer (some ⟨a.J, 0, none⟩)) rfl (by kernel_rfl) (by kernel_rfl) (by kernel_rfl) (fun _ _ _ h => h) (Or.inl ⟨by kernel_rfl, fun w1 hSw => by clear hHeld; have k0 := hSw.c0; have k1 := hSw.c1; have k2 := hSw.c2; have k3 := hSw.c3; have k4 := hSw.c4; go_simp⟩) hHeld ?_
  try simp only [Act.put]
  try simp only [List.getElem_toArray]
  try simp only [List.getElem_cons_succ]
  try simp only [List.getElem_cons_zero]
  try simp only [List.setIfInBounds_toArray]
  try simp only [List.set_cons_succ, List.set_cons_zero]
  refine wpAnyH_take (i := 10) (v := .pointer (some ⟨a.J, 0, none⟩)) rfl (by kernel_rfl) (by kernel_rfl) (by kernel_rfl) (fun _ _ _ h => h) (Or.inl ⟨by kernel_rfl, fun w1 hSw => by clear hHeld; have k0 := hSw.c0; have k1 := hSw.c1; have k2 := hSw.c2; have k3 := hSw.c3; have k4 := hSw.c4; go_simp⟩) hHeld ?_
  try simp only [Act.put]
  try simp only [List.getElem_toArray]
  try simp only [List.getElem_cons_succ]
  try simp only [List.getElem_cons_zero]
  try simp only [List.setIfInBounds_toArray]
  try simp only [List.set_cons_succ, List.set_cons_zero]
  refine wpAnyH_take (i := 11) (v := .pointer (some ⟨a.J, 4, none⟩)) rfl (by kernel_rfl) (by kernel_rfl) (by kernel_rfl) (fun _ _ _ h => h) (Or.inl ⟨by kernel_rfl, fun w1 hSw => by clear hHeld; have k0 := hSw.c0; have k1 := hSw.c1; have k2 := hSw.c2; have k3 := hSw.c3; have k4 := hSw.c4; go_simp⟩) hHeld ?_
  try simp only [Act.put]
  try simp only [List.getElem_toArray]
  try simp only [List.getElem_cons_succ]
  try simp only [List.getElem_cons_zero]
  try simp only [List.setIfInBounds_toArray]
  try simp only [List.set_cons_succ, List.set_cons_zero]
  refine wpAnyH_take (i := 12) (v := .pointer (some ⟨a.A, 0, none⟩)) rfl (by kernel_rfl) (by kernel_rfl) (by kernel_rfl) (fun _ _ _ h => h) (Or.inl ⟨by kernel_rfl, fun w1 hSw => by clear hHeld; have k0 := hSw.c0; have k1 := hSw.c1; have k2 := hSw.c2; have k3 := hSw.c3; have k4 := hSw.c4; go_simp⟩) hHeld ?_
  try simp only [Act.put]
  try simp only [List.getElem_toArray]
  try simp only [List.getElem_cons_succ]
  try simp only [List.getElem_cons_zero]
  try simp only [List.setIfInBounds_toArray]
  try simp only [List.set_cons_succ, List.set_cons_zero]
  refine wpAnyH_take (i := 14) (v := .pointer (some ⟨a.J, 0, none⟩)) rfl (by kernel_rfl) (by kernel_rfl) (by kernel_rfl) (fun _ _ _ h => h) (Or.inl ⟨by kernel_rfl, fun w1 hSw => by clear hHeld; have k0 := hSw.c0; have k1 := hSw.c1; have k2 := hSw.c2; have k3 := hSw.c3; have k4 := hSw.c4; go_simp⟩) hHeld ?_
  try simp only [Act.put]
  try simp only [List.getElem_toArray]
  try simp only [List.getElem_cons_succ]
  try simp only [List.getElem_cons_zero]
  try simp only [List.setIfInBounds_toArray]
  try simp only [List.set_cons_succ, List.set_cons_zero]
  refine wpAnyH_take (i := 15) (v := .pointer (some ⟨a.J, 0, none⟩)) rfl (by kernel_rfl) (by kernel_rfl) (by kernel_rfl) (fun _ _ _ h => h) (Or.inl ⟨by kernel_rfl, fun w1 hSw => by clear hHeld; have k0 := hSw.c0; have k1 := hSw.c1; have k2 := hSw.c2; have k3 := hSw.c3; have k4 := hSw.c4; go_simp⟩) hHeld ?_
  try simp only [Act.put]
  try simp only [List.getElem_toArray]
  try simp only [List.getElem_cons_succ]
  try simp only [List.getElem_cons_zero]
  try simp only [List.setIfInBounds_toArray]
  try simp only [List.set_cons_succ, List.set_cons_zero]
  refine wpAnyH_take (i := 16) (v := .pointer (some ⟨a.J, 4, none⟩)) rfl (by kernel_rfl) (by kernel_rfl) (by kernel_rfl) (fun _ _ _ h => h) (Or.inl ⟨by kernel_rfl, fun w1 hSw => by clear hHeld; have k0 := hSw.c0; have k1 := hSw.c1; have k2 := hSw.c2; have k3 := hSw.c3; have k4 := hSw.c4; go_simp⟩) hHeld ?_
  try simp only [Act.put]
  try simp only [List.getElem_toArray]
  try simp only [List.getElem_cons_succ]
  try simp only [List.getElem_cons_zero]
  try simp only [List.setIfInBounds_toArray]
  try simp only [List.set_cons_succ, List.set_cons_zero]
  refine wpAnyH_take (i := 17) (v := .pointer (some ⟨a.A, 0, none⟩)) rfl (by kernel_rfl) (by kernel_rfl) (by kernel_rfl) (fun _ _ _ h => h) (Or.inl ⟨by kernel_rfl, fun w1 hSw => by clear hHeld; have k0 := hSw.c0; have k1 := hSw.c1; have k2 := hSw.c2; have k3 := hSw.c3; have k4 := hSw.c4; go_simp⟩) hHeld ?_
  try simp only [Act.put]
  try simp only [List.getElem_toArray]
  try simp only [List.getElem_cons_succ]
  try simp only [List.getElem_cons_zero]
  try simp only [List.setIfInBounds_toArray]
  try simp only [List.set_cons_succ, List.set_cons_zero]
  refine wpAnyH_take (i := 19) (v := .pointer (some ⟨a.J, 0, none⟩)) rfl (by kernel_rfl) (by kernel_rfl) (by kernel_rfl) (fun _ _ _ h => h) (Or.inl ⟨by kernel_rfl, fun w1 hSw => by clear hHeld; have k0 := hSw.c0; have k1 := hSw.c1; have k2 := hSw.c2; have k3 := hSw.c3; have k4 := hSw.c4; go_simp⟩) hHeld ?_
  try simp only [Act.put]
  try simp only [List.getElem_toArray]
  try simp only [List.getElem_cons_succ]
  try simp only [List.getElem_cons_zero]
  try simp only [List.setIfInBounds_toArray]
  try simp only [List.set_cons_succ, List.set_cons_zero]
  refine wpAnyH_take (i := 20) (v := .pointer (some ⟨a.J, 0, none⟩)) rfl (by kernel_rfl) (by kernel_rfl) (by kernel_rfl) (fun _ _ _ h => h) (Or.inl ⟨by kernel_rfl, fun w1 hSw => by clear hHeld; have k0 := hSw.c0; have k1 := hSw.c1; have k2 := hSw.c2; have k3 := hSw.c3; have k4 := hSw.c4; go_simp⟩) hHeld ?_
  try simp only [Act.put]
  try simp only [List.getElem_toArray]
  try simp only [List.getElem_cons_succ]
  try simp only [List.getElem_cons_zero]
  try simp only [List.setIfInBounds_toArray]
  try simp only [List.set_cons_succ, List.set_cons_zero]
  refine wpAnyH_take (i := 21) (v := .pointer (some ⟨a.J, 4, none⟩)) rfl (by kernel_rfl) (by kernel_rfl) (by kernel_rfl) (fun _ _ _ h => h) (Or.inl ⟨by kernel_rfl, fun w1 hSw => by clear hHeld; have k0 := hSw.c0; have k1 := hSw.c1; have k2 := hSw.c2; have k3 := hSw.c3; have k4 := hSw.c4; go_simp⟩) hHeld ?_
  try simp only [Act.put]
  try simp only [List.getElem_toArray]
  try simp only [List.getElem_cons_succ]
  try simp only [List.getElem_cons_zero]
  try simp only [List.setIfInBounds_toArray]
  try simp only [List.set_cons_succ, List.set_cons_zero]
  refine wpAnyH_take (i := 22) (v := .pointer (some ⟨a.A, 0, none⟩)) rfl (by kernel_rfl) (by kernel_rfl) (by kernel_rfl) (fun _ _ _ h => h) (Or.inl ⟨by kernel_rfl, fun w1 hSw => by clear hHeld; have k0 := hSw.c0; have k1 := hSw.c1; have k2 := hSw.c2; have k3 := hSw.c3; have k4 := hSw.c4; go_simp⟩) hHeld ?_
  try simp only [Act.put]
  try simp only [List.getElem_toArray]
  try simp only [List.getElem_cons_succ]
  try simp only [List.getElem_cons_zero]
  try simp only [List.setIfInBounds_toArray]
  try simp only [List.set_cons_succ, List.set_cons_zero]
  refine wpAnyH_ready (rs := [8]) (by kernel_rfl) (by simp) ?_
  refine AllReadyH.cons rfl (fun K hK => ?_) AllReadyH.nil
  go_simp
  refine (HL2.out _ _ HLy3.out).mono ?_
  rintro e V17 ⟨rfl, hb⟩
  have HLv17 := hide (HLy3.out.up hb)
  clear hb
  refine hK.out _ _ (HLv17.out.lc) (fun hHeld => ?_)
  clear hK K
  try simp only [Act.put]
  try simp only [List.getElem_toArray]
  try simp only [List.getElem_cons_succ]
  try simp only [List.getElem_cons_zero]
  try simp only [List.setIfInBounds_toArray]
  try simp only [List.set_cons_succ, List.set_cons_zero]
  refine wpAnyH_ready (rs := [13]) (by kernel_rfl) (by simp) ?_
  refine AllReadyH.cons rfl (fun K hK => ?_) AllReadyH.nil
  go_simp
  refine (HA2.out _ _ HLv17.out).mono ?_
  rintro e V18 ⟨rfl, hb⟩
  have HLv18 := hide (HLv17.out.up hb)
  clear hb
  refine hK.out _ _ (HLv18.out.lc) (fun hHeld => ?_)
  clear hK K
  try simp only [Act.put]
  try simp only [List.getElem_toArray]
  try simp only [List.getElem_cons_succ]
  try simp only [List.getElem_cons_zero]
  try simp only [List.setIfInBounds_toArray]
  try simp only [List.set_cons_succ, List.set_cons_zero]
  refine wpAnyH_ready (rs := [18]) (by kernel_rfl) (by simp) ?_
  refine AllReadyH.cons rfl (fun K hK => ?_) AllReadyH.nil
  go_simp
  refine (HS2.out _ _ HLv18.out).mono ?_
  rintro e V19 ⟨rfl, hb⟩
  have HLv19 := hide (HLv18.out.up hb)
  clear hb
  refine hK.out _ _ (HLv19.out.lc) (fun hHeld => ?_)
  clear hK K
  try simp only [Act.put]
  try simp only [List.getElem_toArray]
  try simp only [List.getElem_cons_succ]
  try simp only [List.getElem_cons_zero]
  try simp only [List.setIfInBounds_toArray]
  try simp only [List.set_cons_succ, List.set_cons_zero]
  refine wpAnyH_ready (rs := [23]) (by kernel_rfl) (by simp) ?_
  refine AllReadyH.cons rfl (fun K hK => ?_) AllReadyH.nil
  go_simp
  refine (HT2.out _ _ HLv19.out).mono ?_
  rintro e V20 ⟨rfl, hb⟩
  have HLv20 := hide (HLv19.out.up hb)
  clear hb
  refine hK.out _ _ (HLv20.out.lc) (fun hHeld => ?_)
  clear hK K
  try simp only [Act.put]
  try simp only [List.getElem_toArray]
  try simp only [List.getElem_cons_succ]
  try simp only [List.getElem_cons_zero]
  try simp only [List.setIfInBounds_toArray]
  try simp only [List.set_cons_succ, List.set_cons_zero]
  refine wpAnyH_take (i := 24) (v := .pointer (some ⟨B, 0, none⟩)) rfl (by kernel_rfl) (by kernel_rfl) (by kernel_rfl) (fun _ _ _ h => h) (Or.inl ⟨by kernel_rfl, fun w1 hSw => by clear hHeld; have k0 := hSw.c0; have k1 := hSw.c1; have k2 := hSw.c2; have k3 := hSw.c3; have k4 := hSw.c4; go_simp⟩) hHeld ?_
  try simp only [Act.put]
  try simp only [List.getElem_toArray]
  try simp only [List.getElem_cons_succ]
  try simp only [List.getElem_cons_zero]
  try simp only [List.setIfInBounds_toArray]
  try simp only [List.set_cons_succ, List.set_cons_zero]
  refine wpAnyH_take (i := 25) (v := .pointer (some ⟨B, 16, none⟩)) rfl (by kernel_rfl) (by kernel_rfl) (by kernel_rfl) (fun _ _ _ h => h) (Or.inl ⟨by kernel_rfl, fun w1 hSw => by clear hHeld; have k0 := hSw.c0; have k1 := hSw.c1; have k2 := hSw.c2; have k3 := hSw.c3; have k4 := hSw.c4; go_simp⟩) hHeld ?_
  try simp only [Act.put]
  try simp only [List.getElem_toArray]
  try simp only [List.getElem_cons_succ]
  try simp only [List.getElem_cons_zero]
  try simp only [List.setIfInBounds_toArray]
  try simp only [List.set_cons_succ, List.set_cons_zero]
  refine wpAnyH_ready (rs := [26]) (by kernel_rfl) (by simp) ?_
  refine AllReadyH.cons rfl (fun K hK => ?_) AllReadyH.nil
  have hz := blk_z HLv20.out.bx
  obtain ⟨q0, q1, q2, q3, q4, q5, q6, q7, q8, q9, q10, q11, q12, q13, q14, q15, q16, q17, q18, q19⟩ := look_cells HLv20.out.bx
  have hBl := lt_of_block HLv20.out.bx
  have HLv21 : Hid (Lx w a j B #[x0, x1, x2, x3, x4, x5, .int .i64 j.no, .int .i64 j.ba, .int .i64 (j.m.dn : Int), .bool j.m.ov, .int .i64 (Im.resC j.m : Int), .int .u64 (Im.resB j.m : Int), .int .i64 (j.lg.len : Int), .int .i64 (j.lg.go : Int), .int .i64 (j.lg.said : Int), .int .i64 (j.lg.ti : Int), .int .i64 (j.ar.len : Int), x17, x18, x19] (V20.setCell ⟨B, 16, none⟩ (.int .i64 (j.ar.len : Int)))) := hide (HLv20.out.set 16 _)
  clear hHeld
  go_simp
  obtain ⟨V21, hV⟩ : ∃ V, (V20.setCell ⟨B, 16, none⟩ (.int .i64 (j.ar.len : Int))) = V := ⟨_, rfl⟩
  rw [hV] at HLv21 ⊢
  clear hV hz hBl q0 q1 q2 q3 q4 q5 q6 q7 q8 q9 q10 q11 q12 q13 q14 q15 q16 q17 q18 q19
  refine hK.out _ _ (HLv21.out.lc) (fun hHeld => ?_)
  clear hK K
  try simp only [Act.put]
  try simp only [List.getElem_toArray]
  try simp only [List.getElem_cons_succ]
  try simp only [List.getElem_cons_zero]
  try simp only [List.setIfInBounds_toArray]
  try simp only [List.set_cons_succ, List.set_cons_zero]
  refine wpAnyH_take (i := 27) (v := .pointer (some ⟨B, 0, none⟩)) rfl (by kernel_rfl) (by kernel_rfl) (by kernel_rfl) (fun _ _ _ h => h) (Or.inl ⟨by kernel_rfl, fun w1 hSw => by clear hHeld; have k0 := hSw.c0; have k1 := hSw.c1; have k2 := hSw.c2; have k3 := hSw.c3; have k4 := hSw.c4; go_simp⟩) hHeld ?_
  try simp only [Act.put]
  try simp only [List.getElem_toArray]
  try simp only [List.getElem_cons_succ]
  try simp only [List.getElem_cons_zero]
  try simp only [List.setIfInBounds_toArray]
  try simp only [List.set_cons_succ, List.set_cons_zero]
  refine wpAnyH_take (i := 28) (v := .pointer (some ⟨B, 17, none⟩)) rfl (by kernel_rfl) (by kernel_rfl) (by kernel_rfl) (fun _ _ _ h => h) (Or.inl ⟨by kernel_rfl, fun w1 hSw => by clear hHeld; have k0 := hSw.c0; have k1 := hSw.c1; have k2 := hSw.c2; have k3 := hSw.c3; have k4 := hSw.c4; go_simp⟩) hHeld ?_
  try simp only [Act.put]
  try simp only [List.getElem_toArray]
  try simp only [List.getElem_cons_succ]
  try simp only [List.getElem_cons_zero]
  try simp only [List.setIfInBounds_toArray]
  try simp only [List.set_cons_succ, List.set_cons_zero]
  refine wpAnyH_ready (rs := [29]) (by kernel_rfl) (by simp) ?_
  refine AllReadyH.cons rfl (fun K hK => ?_) AllReadyH.nil
  have hz := blk_z HLv21.out.bx
  obtain ⟨q0, q1, q2, q3, q4, q5, q6, q7, q8, q9, q10, q11, q12, q13, q14, q15, q16, q17, q18, q19⟩ := look_cells HLv21.out.bx
  have hBl := lt_of_block HLv21.out.bx
  have HLv22 : Hid (Lx w a j B #[x0, x1, x2, x3, x4, x5, .int .i64 j.no, .int .i64 j.ba, .int .i64 (j.m.dn : Int), .bool j.m.ov, .int .i64 (Im.resC j.m : Int), .int .u64 (Im.resB j.m : Int), .int .i64 (j.lg.len : Int), .int .i64 (j.lg.go : Int), .int .i64 (j.lg.said : Int), .int .i64 (j.lg.ti : Int), .int .i64 (j.ar.len : Int), .int .i64 (j.ar.go : Int), x18, x19] (V21.setCell ⟨B, 17, none⟩ (.int .i64 (j.ar.go : Int)))) := hide (HLv21.out.set 17 _)
  clear hHeld
  go_simp
  obtain ⟨V22, hV⟩ : ∃ V, (V21.setCell ⟨B, 17, none⟩ (.int .i64 (j.ar.go : Int))) = V := ⟨_, rfl⟩
  rw [hV] at HLv22 ⊢
  clear hV hz hBl q0 q1 q2 q3 q4 q5 q6 q7 q8 q9 q10 q11 q12 q13 q14 q15 q16 q17 q18 q19
  refine hK.out _ _ (HLv22.out.lc) (fun hHeld => ?_)
  clear hK K
  try simp only [Act.put]
  try simp only [List.getElem_toArray]
  try simp only [List.getElem_cons_succ]
  try simp only [List.getElem_cons_zero]
  try simp only [List.setIfInBounds_toArray]
  try simp only [List.set_cons_succ, List.set_cons_zero]
  refine wpAnyH_take (i := 30) (v := .pointer (some ⟨B, 0, none⟩)) rfl (by kernel_rfl) (by kernel_rfl) (by kernel_rfl) (fun _ _ _ h => h) (Or.inl ⟨by kernel_rfl, fun w1 hSw => by clear hHeld; have k0 := hSw.c0; have k1 := hSw.c1; have k2 := hSw.c2; have k3 := hSw.c3; have k4 := hSw.c4; go_simp⟩) hHeld ?_
  try simp only [Act.put]
  try simp only [List.getElem_toArray]
  try simp only [List.getElem_cons_succ]
  try simp only [List.getElem_cons_zero]
  try simp only [List.setIfInBounds_toArray]
  try simp only [List.set_cons_succ, List.set_cons_zero]
  refine wpAnyH_take (i := 31) (v := .pointer (some ⟨B, 18, none⟩)) rfl (by kernel_rfl) (by kernel_rfl) (by kernel_rfl) (fun _ _ _ h => h) (Or.inl ⟨by kernel_rfl, fun w1 hSw => by clear hHeld; have k0 := hSw.c0; have k1 := hSw.c1; have k2 := hSw.c2; have k3 := hSw.c3; have k4 := hSw.c4; go_simp⟩) hHeld ?_
  try simp only [Act.put]
  try simp only [List.getElem_toArray]
  try simp only [List.getElem_cons_succ]
  try simp only [List.getElem_cons_zero]
  try simp only [List.setIfInBounds_toArray]
  try simp only [List.set_cons_succ, List.set_cons_zero]
  refine wpAnyH_ready (rs := [32]) (by kernel_rfl) (by simp) ?_
  refine AllReadyH.cons rfl (fun K hK => ?_) AllReadyH.nil
  have hz := blk_z HLv22.out.bx
  obtain ⟨q0, q1, q2, q3, q4, q5, q6, q7, q8, q9, q10, q11, q12, q13, q14, q15, q16, q17, q18, q19⟩ := look_cells HLv22.out.bx
  have hBl := lt_of_block HLv22.out.bx
  have HLv23 : Hid (Lx w a j B #[x0, x1, x2, x3, x4, x5, .int .i64 j.no, .int .i64 j.ba, .int .i64 (j.m.dn : Int), .bool j.m.ov, .int .i64 (Im.resC j.m : Int), .int .u64 (Im.resB j.m : Int), .int .i64 (j.lg.len : Int), .int .i64 (j.lg.go : Int), .int .i64 (j.lg.said : Int), .int .i64 (j.lg.ti : Int), .int .i64 (j.ar.len : Int), .int .i64 (j.ar.go : Int), .int .i64 (j.ar.said : Int), x19] (V22.setCell ⟨B, 18, none⟩ (.int .i64 (j.ar.said : Int)))) := hide (HLv22.out.set 18 _)
  clear hHeld
  go_simp
  obtain ⟨V23, hV⟩ : ∃ V, (V22.setCell ⟨B, 18, none⟩ (.int .i64 (j.ar.said : Int))) = V := ⟨_, rfl⟩
  rw [hV] at HLv23 ⊢
  clear hV hz hBl q0 q1 q2 q3 q4 q5 q6 q7 q8 q9 q10 q11 q12 q13 q14 q15 q16 q17 q18 q19
  refine hK.out _ _ (HLv23.out.lc) (fun hHeld => ?_)
  clear hK K
  try simp only [Act.put]
  try simp only [List.getElem_toArray]
  try simp only [List.getElem_cons_succ]
  try simp only [List.getElem_cons_zero]
  try simp only [List.setIfInBounds_toArray]
  try simp only [List.set_cons_succ, List.set_cons_zero]
  refine wpAnyH_take (i := 33) (v := .pointer (some ⟨B, 0, none⟩)) rfl (by kernel_rfl) (by kernel_rfl) (by kernel_rfl) (fun _ _ _ h => h) (Or.inl ⟨by kernel_rfl, fun w1 hSw => by clear hHeld; have k0 := hSw.c0; have k1 := hSw.c1; have k2 := hSw.c2; have k3 := hSw.c3; have k4 := hSw.c4; go_simp⟩) hHeld ?_
  try simp only [Act.put]
  try simp only [List.getElem_toArray]
  try simp only [List.getElem_cons_succ]
  try simp only [List.getElem_cons_zero]
  try simp only [List.setIfInBounds_toArray]
  try simp only [List.set_cons_succ, List.set_cons_zero]
  refine wpAnyH_take (i := 34) (v := .pointer (some ⟨B, 19, none⟩)) rfl (by kernel_rfl) (by kernel_rfl) (by kernel_rfl) (fun _ _ _ h => h) (Or.inl ⟨by kernel_rfl, fun w1 hSw => by clear hHeld; have k0 := hSw.c0; have k1 := hSw.c1; have k2 := hSw.c2; have k3 := hSw.c3; have k4 := hSw.c4; go_simp⟩) hHeld ?_
  try simp only [Act.put]
  try simp only [List.getElem_toArray]
  try simp only [List.getElem_cons_succ]
  try simp only [List.getElem_cons_zero]
  try simp only [List.setIfInBounds_toArray]
  try simp only [List.set_cons_succ, List.set_cons_zero]
  refine wpAnyH_ready (rs := [35]) (by kernel_rfl) (by simp) ?_
  refine AllReadyH.cons rfl (fun K hK => ?_) AllReadyH.nil
  have hz := blk_z HLv23.out.bx
  obtain ⟨q0, q1, q2, q3, q4, q5, q6, q7, q8, q9, q10, q11, q12, q13, q14, q15, q16, q17, q18, q19⟩ := look_cells HLv23.out.bx
  have hBl := lt_of_block HLv23.out.bx
  have HLv24 : Hid (Lx w a j B #[x0, x1, x2, x3, x4, x5, .int .i64 j.no, .int .i64 j.ba, .int .i64 (j.m.dn : Int), .bool j.m.ov, .int .i64 (Im.resC j.m : Int), .int .u64 (Im.resB j.m : Int), .int .i64 (j.lg.len : Int), .int .i64 (j.lg.go : Int), .int .i64 (j.lg.said : Int), .int .i64 (j.lg.ti : Int), .int .i64 (j.ar.len : Int), .int .i64 (j.ar.go : Int), .int .i64 (j.ar.said : Int), .int .i64 (j.ar.ti : Int)] (V23.setCell ⟨B, 19, none⟩ (.int .i64 (j.ar.ti : Int)))) := hide (HLv23.out.set 19 _)
  clear hHeld
  go_simp
  obtain ⟨V24, hV⟩ : ∃ V, (V23.setCell ⟨B, 19, none⟩ (.int .i64 (j.ar.ti : Int))) = V := ⟨_, rfl⟩
  rw [hV] at HLv24 ⊢
  clear hV hz hBl q0 q1 q2 q3 q4 q5 q6 q7 q8 q9 q10 q11 q12 q13 q14 q15 q16 q17 q18 q19
  refine hK.out _ _ (HLv24.out.lc) (fun hHeld => ?_)
  clear hK K
  try simp only [Act.put]
  try simp only [List.getElem_toArray]
  try simp only [List.getElem_cons_succ]
  try simp only [List.getElem_cons_zero]
  try simp only [List.setIfInBounds_toArray]
  try simp only [List.set_cons_succ, List.set_cons_zero]
  refine wpAnyH_done (by kernel_rfl) ?_ _
  clear hHeld
  go_wp2_with fail
  go_end0
  exact ⟨rfl, HLv24.out.on, HLv24.out.bx⟩
end Go.Proofs.YtkfnedhllfdghaaGreatDoor.RN
end
