import Derived.Test.YtkfnedhllfdghaaGreatDoorMgBF

section
namespace Go.Proofs.YtkfnedhllfdghaaGreatDoor.RN
open Go.RowKit Go.Shelf
set_option maxRecDepth 20000

/-- what is asked of the coordinator next -/
def Jb.rq (j : Jb) : W.Wr.Ms := if j.all = true then ⟨4, 0, 0, 0, j.ba, 0, (j.lg.len : Int), (Im.resC j.m : Int), Im.resB j.m, W.Wr.e0, W.Wr.e0⟩ else ⟨3, 0, 0, 0, j.ba, 0, 0, 0, 0, W.Wr.e0, W.Wr.e0⟩
theorem msg_other (V : World) {B b : Nat} (hn : b ≠ B) (x0 x1 x2 x3 x4 x5 x6 x7 x8 x9 x10 : Value) : (((((((((((V.setCell ⟨B, 0, none⟩ x0).setCell ⟨B, 1, none⟩ x1).setCell ⟨B, 2, none⟩ x2).setCell ⟨B, 3, none⟩ x3).setCell ⟨B, 4, none⟩ x4).setCell ⟨B, 5, none⟩ x5).setCell ⟨B, 6, none⟩ x6).setCell ⟨B, 7, none⟩ x7).setCell ⟨B, 8, none⟩ x8).setCell ⟨B, 9, none⟩ x9).setCell ⟨B, 10, none⟩ x10).heap[b]? = V.heap[b]? := (Below.heap_setCell _ ⟨B, 10, none⟩ _ b hn).trans ((Below.heap_setCell _ ⟨B, 9, none⟩ _ b hn).trans ((Below.heap_setCell _ ⟨B, 8, none⟩ _ b hn).trans ((Below.heap_setCell _ ⟨B, 7, none⟩ _ b hn).trans ((Below.heap_setCell _ ⟨B, 6, none⟩ _ b hn).trans ((Below.heap_setCell _ ⟨B, 5, none⟩ _ b hn).trans ((Below.heap_setCell _ ⟨B, 4, none⟩ _ b hn).trans ((Below.heap_setCell _ ⟨B, 3, none⟩ _ b hn).trans ((Below.heap_setCell _ ⟨B, 2, none⟩ _ b hn).trans ((Below.heap_setCell _ ⟨B, 1, none⟩ _ b hn).trans (Below.heap_setCell _ ⟨B, 0, none⟩ _ b hn))))))))))
theorem Sq_set {V : World} {J B : Nat} {u0 u2 u3 : Value} (h : V.cell? ⟨J, 0, none⟩ = some u0 ∧ V.cell? ⟨J, 2, none⟩ = some u2 ∧ V.cell? ⟨J, 3, none⟩ = some u3) (hn : J ≠ B) (x0 x1 x2 x3 x4 x5 x6 x7 x8 x9 x10 : Value) : (((((((((((V.setCell ⟨B, 0, none⟩ x0).setCell ⟨B, 1, none⟩ x1).setCell ⟨B, 2, none⟩ x2).setCell ⟨B, 3, none⟩ x3).setCell ⟨B, 4, none⟩ x4).setCell ⟨B, 5, none⟩ x5).setCell ⟨B, 6, none⟩ x6).setCell ⟨B, 7, none⟩ x7).setCell ⟨B, 8, none⟩ x8).setCell ⟨B, 9, none⟩ x9).setCell ⟨B, 10, none⟩ x10).cell? ⟨J, 0, none⟩ = some u0 ∧ (((((((((((V.setCell ⟨B, 0, none⟩ x0).setCell ⟨B, 1, none⟩ x1).setCell ⟨B, 2, none⟩ x2).setCell ⟨B, 3, none⟩ x3).setCell ⟨B, 4, none⟩ x4).setCell ⟨B, 5, none⟩ x5).setCell ⟨B, 6, none⟩ x6).setCell ⟨B, 7, none⟩ x7).setCell ⟨B, 8, none⟩ x8).setCell ⟨B, 9, none⟩ x9).setCell ⟨B, 10, none⟩ x10).cell? ⟨J, 2, none⟩ = some u2 ∧ (((((((((((V.setCell ⟨B, 0, none⟩ x0).setCell ⟨B, 1, none⟩ x1).setCell ⟨B, 2, none⟩ x2).setCell ⟨B, 3, none⟩ x3).setCell ⟨B, 4, none⟩ x4).setCell ⟨B, 5, none⟩ x5).setCell ⟨B, 6, none⟩ x6).setCell ⟨B, 7, none⟩ x7).setCell ⟨B, 8, none⟩ x8).setCell ⟨B, 9, none⟩ x9).setCell ⟨B, 10, none⟩ x10).cell? ⟨J, 3, none⟩ = some u3 :=
  ⟨(World.cell?_of_block (a := ⟨J, 0, none⟩) (msg_other V hn x0 x1 x2 x3 x4 x5 x6 x7 x8 x9 x10)).trans h.1, (World.cell?_of_block (a := ⟨J, 2, none⟩) (msg_other V hn x0 x1 x2 x3 x4 x5 x6 x7 x8 x9 x10)).trans h.2.1, (World.cell?_of_block (a := ⟨J, 3, none⟩) (msg_other V hn x0 x1 x2 x3 x4 x5 x6 x7 x8 x9 x10)).trans h.2.2⟩
theorem msg_cells {w : World} {A : Nat} {m : W.Wr.Ms} (h : W.Mg w A m) : w.cell? ⟨A, 0, none⟩ = some (.int .i64 m.k) ∧ w.cell? ⟨A, 1, none⟩ = some (.int .i64 m.se) ∧ w.cell? ⟨A, 2, none⟩ = some (.int .i64 m.nu) ∧ w.cell? ⟨A, 3, none⟩ = some (.int .i64 m.jo) ∧ w.cell? ⟨A, 4, none⟩ = some (.int .i64 m.ba) ∧ w.cell? ⟨A, 5, none⟩ = some (.int .i64 m.ix) ∧ w.cell? ⟨A, 6, none⟩ = some (.int .i64 m.co) ∧ w.cell? ⟨A, 7, none⟩ = some (.int .i64 m.rc) ∧ w.cell? ⟨A, 8, none⟩ = some (.int .u64 (m.rb : Int)) ∧ w.cell? ⟨A, 9, none⟩ = some (.string m.tx) ∧ w.cell? ⟨A, 10, none⟩ = some (.string m.pr) :=
  by
  have h1 : w.heap[A]? = some (.cells #[.int .i64 m.k, .int .i64 m.se, .int .i64 m.nu, .int .i64 m.jo, .int .i64 m.ba, .int .i64 m.ix, .int .i64 m.co, .int .i64 m.rc, .int .u64 (m.rb : Int), .string m.tx, .string m.pr] 67 (0, 0)) := h
  refine ⟨cell_of h1 ?_, cell_of h1 ?_, cell_of h1 ?_, cell_of h1 ?_, cell_of h1 ?_, cell_of h1 ?_, cell_of h1 ?_, cell_of h1 ?_, cell_of h1 ?_, cell_of h1 ?_, cell_of h1 ?_⟩ <;> rfl
theorem results_m1 {fn : Func} {p : Tmp} (h : fn.results = #[.cell p 67]) (tmps : Array Value) (w : World) (g : Nat) (cs : Array Value) (hp : tmps.getD p undef = .pointer (some ⟨g, 0, none⟩)) (hg : w.heap[g]? = some (.cells cs 67 (0, 0))) (hc : cs.size = 11) :
    (results fn tmps).run Tryz.prog w = .ok (.agg cs) w := by
  have he := run_loadVar_row (P := Tryz.prog) w g 67 67 cs (0, 0) _ hg Tryz.underlying67 rfl (by rw [hc]; kernel_rfl)
  rw [results_c1 h, hp]
  simp [asAddr, he]
set_option maxHeartbeats 8000000 in
theorem request_any {w : World} {a : JA} {j : Jb} (h : Jm w a j) (hk : j.ok) :
    Calls Tryz.prog 93 #[.pointer (some ⟨a.J, 0, none⟩)] w fun e w' => e = .returned (.agg (W.msgC j.rq)) ∧ Below w.heap.size w w' := by
  have HBz : Hid (Below w.heap.size w (w.alloc (.cells #[.int .i64 0, .int .i64 0, .int .i64 0, .int .i64 0, .int .i64 0, .int .i64 0, .int .i64 0, .int .i64 0, .int .u64 0, .string ⟨#[]⟩, .string ⟨#[]⟩] 67))) := CH.below_alloc w _
  have HAl := hide (all_any (h.below HBz.out) hk)
  have hc0 := (h.below HBz.out).c0
  have hc2 := (h.below HBz.out).c2_
  have hc3 := (h.below HBz.out).c3_
  have HTL := hide (fun (V : World) (hb : Below w.heap.size w V) => q_len1 (h.below hb) hk 0)
  have HRs := hide (fun (V : World) (hb : Below w.heap.size w V) => result_any (h.below hb).mb)
  have hJl : a.J < w.heap.size := lt_of_block h.jb
  have hJB : a.J ≠ w.heap.size := by omega
  have HMz : Hid (W.Mg (w.alloc (.cells #[.int .i64 0, .int .i64 0, .int .i64 0, .int .i64 0, .int .i64 0, .int .i64 0, .int .i64 0, .int .i64 0, .int .u64 0, .string ⟨#[]⟩, .string ⟨#[]⟩] 67)) w.heap.size (W.Wr.zM 0)) := heap_alloc_new w _
  have hBz : w.heap.size < (w.alloc (.cells #[.int .i64 0, .int .i64 0, .int .i64 0, .int .i64 0, .int .i64 0, .int .i64 0, .int .i64 0, .int .i64 0, .int .u64 0, .string ⟨#[]⟩, .string ⟨#[]⟩] 67)).heap.size := by simp
  clear h hk
  cases hal : j.all with
  | false =>
    rw [hal] at HAl
    have e1 : j.rq = ⟨3, 0, 0, 0, j.ba, 0, 0, 0, 0, W.Wr.e0, W.Wr.e0⟩ := if_neg (by rw [hal]; decide)
    rw [e1]
    clear e1 hal HTL HRs
    go_enter Tryz.func93, Tryz.ntmps93
    go_wp2_with fail
    refine HAl.out.mono ?_
    rintro e w1 ⟨rfl, m, rfl⟩
    go_upto_region 2 with fail
    obtain ⟨V0, hV0⟩ : ∃ V0, (w.alloc (.cells #[.int .i64 0, .int .i64 0, .int .i64 0, .int .i64 0, .int .i64 0, .int .i64 0, .int .i64 0, .int .i64 0, .int .u64 0, .string ⟨#[]⟩, .string ⟨#[]⟩] 67)).drewN m = V0 := ⟨_, rfl⟩
    have HM0 : Hid (W.Mg V0 w.heap.size (W.Wr.zM 0)) := by rw [← hV0]; exact HMz.out
    have HBw : Hid (Below w.heap.size w V0) := by rw [← hV0]; exact CH.below_drewN HBz.out m
    have d2 : V0.cell? ⟨a.J, 2, none⟩ = some (.int .i64 j.ba) := by rw [← hV0]; exact hc2
    rw [hV0]
    have hMl := lt_of_block HM0.out
    obtain ⟨q0, q1, q2, q3, q4, q5, q6, q7, q8, q9, q10⟩ := msg_cells HM0.out
    have zz := HM0.out.z
    have HF := hide (W.set11 HM0.out HBw.out (Nat.le_refl _) (.int .i64 3) (.int .i64 0) (.int .i64 0) (.int .i64 0) (.int .i64 j.ba) (.int .i64 0) (.int .i64 0) (.int .i64 0) (.int .u64 0) (.string ⟨#[]⟩) (.string ⟨#[]⟩))
    clear hV0 hc0 hc2 hc3 HMz HBz HAl
    go_wp2_with fail
    refine bodyPost_ret (results_m1 rfl _ _ w.heap.size _ rfl HF.out.1 rfl) rfl ?_
    exact ⟨rfl, HF.out.2⟩
  | true =>
    rw [hal] at HAl
    have e1 : j.rq = ⟨4, 0, 0, 0, j.ba, 0, (j.lg.len : Int), (Im.resC j.m : Int), Im.resB j.m, W.Wr.e0, W.Wr.e0⟩ := if_pos hal
    rw [e1]
    clear e1 hal
    generalize j.ba = jba at *
    generalize j.lg.len = LN at *
    generalize Im.resC j.m = RC at *
    generalize Im.resB j.m = RB at *
    go_enter Tryz.func93, Tryz.ntmps93
    go_wp2_with fail
    refine HAl.out.mono ?_
    rintro e w1 ⟨rfl, m, hw1⟩
    go_upto_region 3 with fail
    try rw [hw1]
    obtain ⟨V0, hV0⟩ : ∃ V0, (w.alloc (.cells #[.int .i64 0, .int .i64 0, .int .i64 0, .int .i64 0, .int .i64 0, .int .i64 0, .int .i64 0, .int .i64 0, .int .u64 0, .string ⟨#[]⟩, .string ⟨#[]⟩] 67)).drewN m = V0 := ⟨_, rfl⟩
    have HM0 : Hid (W.Mg V0 w.heap.size (W.Wr.zM 0)) := by rw [← hV0]; exact HMz.out
    have HBw : Hid (Below w.heap.size w V0) := by rw [← hV0]; exact CH.below_drewN HBz.out m
    have d0 : V0.cell? ⟨a.J, 0, none⟩ = some (.pointer (some ⟨a.M, 0, none⟩)) := by rw [← hV0]; exact hc0
    have d2 : V0.cell? ⟨a.J, 2, none⟩ = some (.int .i64 jba) := by rw [← hV0]; exact hc2
    have d3 : V0.cell? ⟨a.J, 3, none⟩ = some (.pointer (some ⟨a.L, 0, none⟩)) := by rw [← hV0]; exact hc3
    rw [hV0]
    clear hV0 hw1 hc0 hc2 hc3 HMz HBz HAl
    have HTL2 := HTL
    have HRs2 := HRs
    clear HTL HRs
    have HTL := hide (fun (V : World) (hb : Below V0.heap.size V0 V) => HTL2.out V (HBw.out.trans (hb.mono HBw.out.size)))
    have HRs := hide (fun (V : World) (hb : Below V0.heap.size V0 V) => HRs2.out V (HBw.out.trans (hb.mono HBw.out.size)))
    have hBl : w.heap.size < V0.heap.size := lt_of_block HM0.out
    have hJ0 : a.J < V0.heap.size := by omega
    have HB0 : Hid (Below V0.heap.size V0 V0.drew) := hide ⟨rfl, rfl, rfl, Nat.le_refl _, fun _ _ => rfl⟩
    have HC0 : Hid (∀ V : World, Below V0.heap.size V0 V → V.cell? ⟨a.J, 0, none⟩ = some (.pointer (some ⟨a.M, 0, none⟩)) ∧ V.cell? ⟨a.J, 2, none⟩ = some (.int .i64 jba) ∧ V.cell? ⟨a.J, 3, none⟩ = some (.pointer (some ⟨a.L, 0, none⟩))) := hide fun V hb => ⟨(hb.cell (p := ⟨a.J, 0, none⟩) hJ0).trans d0, (hb.cell (p := ⟨a.J, 2, none⟩) hJ0).trans d2, (hb.cell (p := ⟨a.J, 3, none⟩) hJ0).trans d3⟩
    clear d0 d2 d3 HTL2 HRs2
    refine wp_region_held_drew (S := fun V => V.cell? ⟨a.J, 0, none⟩ = some (.pointer (some ⟨a.M, 0, none⟩)) ∧ V.cell? ⟨a.J, 2, none⟩ = some (.int .i64 jba) ∧ V.cell? ⟨a.J, 3, none⟩ = some (.pointer (some ⟨a.L, 0, none⟩))) (by kernel_rfl) (HC0.out _ HB0.out) (fun hHeld => ?_)
    refine wpAnyH_take (i := 0) (v := .pointer (some ⟨a.J, 0, none⟩)) rfl (by kernel_rfl) (by kernel_rfl) (by kernel_rfl) (fun _ _ _ h => h) (Or.inl ⟨by kernel_rfl, fun w1 hSw => by clear hHeld; obtain ⟨q0, q2, q3⟩ := hSw; go_simp⟩) hHeld ?_
    try simp only [Act.put]
    try simp only [List.getElem_toArray]
    try simp only [List.getElem_cons_succ]
    try simp only [List.getElem_cons_zero]
    try simp only [List.setIfInBounds_toArray]
    try simp only [List.set_cons_succ, List.set_cons_zero]
    refine wpAnyH_take (i := 1) (v := .pointer (some ⟨a.J, 0, none⟩)) rfl (by kernel_rfl) (by kernel_rfl) (by kernel_rfl) (fun _ _ _ h => h) (Or.inl ⟨by kernel_rfl, fun w1 hSw => by clear hHeld; obtain ⟨q0, q2, q3⟩ := hSw; go_simp⟩) hHeld ?_
    try simp only [Act.put]
    try simp only [List.getElem_toArray]
    try simp only [List.getElem_cons_succ]
    try simp only [List.getElem_cons_zero]
    try simp only [List.setIfInBounds_toArray]
    try simp only [List.set_cons_succ, List.set_cons_zero]
    refine wpAnyH_take (i := 2) (v := .pointer (some ⟨a.J, 2, none⟩)) rfl (by kernel_rfl) (by kernel_rfl) (by kernel_rfl) (fun _ _ _ h => h) (Or.inl ⟨by kernel_rfl, fun w1 hSw => by clear hHeld; obtain ⟨q0, q2, q3⟩ := hSw; go_simp⟩) hHeld ?_
    try simp only [Act.put]
    try simp only [List.getElem_toArray]
    try simp only [List.getElem_cons_succ]
    try simp only [List.getElem_cons_zero]
    try simp only [List.setIfInBounds_toArray]
    try simp only [List.set_cons_succ, List.set_cons_zero]
    refine wpAnyH_take (i := 3) (v := .int .i64 jba) rfl (by kernel_rfl) (by kernel_rfl) (by kernel_rfl) (fun _ _ _ h => h) (Or.inl ⟨by kernel_rfl, fun w1 hSw => by clear hHeld; obtain ⟨q0, q2, q3⟩ := hSw; go_simp⟩) hHeld ?_
    try simp only [Act.put]
    try simp only [List.getElem_toArray]
    try simp only [List.getElem_cons_succ]
    try simp only [List.getElem_cons_zero]
    try simp only [List.setIfInBounds_toArray]
    try simp only [List.set_cons_succ, List.set_cons_zero]
    refine wpAnyH_take (i := 4) (v := .pointer (some ⟨a.J, 0, none⟩)) rfl (by kernel_rfl) (by kernel_rfl) (by kernel_rfl) (fun _ _ _ h => h) (Or.inl ⟨by kernel_rfl, fun w1 hSw => by clear hHeld; obtain ⟨q0, q2, q3⟩ := hSw; go_simp⟩) hHeld ?_
    try simp only [Act.put]
    try simp only [List.getElem_toArray]
    try simp only [List.getElem_cons_succ]
    try simp only [List.getElem_cons_zero]
    try simp only [List.setIfInBounds_toArray]
    try simp only [List.set_cons_succ, List.set_cons_zero]
    refine wpAnyH_take (i := 5) (v := .pointer (some ⟨a.J, 0, none⟩)) rfl (by kernel_rfl) (by kernel_rfl) (by kernel_rfl) (fun _ _ _ h => h) (Or.inl ⟨by kernel_rfl, fun w1 hSw => by clear hHeld; obtain ⟨q0, q2, q3⟩ := hSw; go_simp⟩) hHeld ?_
    try simp only [Act.put]
    try simp only [List.getElem_toArray]
    try simp only [List.getElem_cons_succ]
    try simp only [List.getElem_cons_zero]
    try simp only [List.setIfInBounds_toArray]
    try simp only [List.set_cons_succ, List.set_cons_zero]
    refine wpAnyH_take (i := 6) (v := .pointer (some ⟨a.J, 3, none⟩)) rfl (by kernel_rfl) (by kernel_rfl) (by kernel_rfl) (fun _ _ _ h => h) (Or.inl ⟨by kernel_rfl, fun w1 hSw => by clear hHeld; obtain ⟨q0, q2, q3⟩ := hSw; go_simp⟩) hHeld ?_
    try simp only [Act.put]
    try simp only [List.getElem_toArray]
    try simp only [List.getElem_cons_succ]
    try simp only [List.getElem_cons_zero]
    try simp only [List.setIfInBounds_toArray]
    try simp only [List.set_cons_succ, List.set_cons_zero]
    refine wpAnyH_take (i := 7) (v := .pointer (some ⟨a.L, 0, none⟩)) rfl (by kernel_rfl) (by kernel_rfl) (by kernel_rfl) (fun _ _ _ h => h) (Or.inl ⟨by kernel_rfl, fun w1 hSw => by clear hHeld; obtain ⟨q0, q2, q3⟩ := hSw; go_simp⟩) hHeld ?_
    try simp only [Act.put]
    try simp only [List.getElem_toArray]
    try simp only [List.getElem_cons_succ]
    try simp only [List.getElem_cons_zero]
    try simp only [List.setIfInBounds_toArray]
    try simp only [List.set_cons_succ, List.set_cons_zero]
    refine wpAnyH_take (i := 9) (v := .pointer (some ⟨a.J, 0, none⟩)) rfl (by kernel_rfl) (by kernel_rfl) (by kernel_rfl) (fun _ _ _ h => h) (Or.inl ⟨by kernel_rfl, fun w1 hSw => by clear hHeld; obtain ⟨q0, q2, q3⟩ := hSw; go_simp⟩) hHeld ?_
    try simp only [Act.put]
    try simp only [List.getElem_toArray]
    try simp only [List.getElem_cons_succ]
    try simp only [List.getElem_cons_zero]
    try simp only [List.setIfInBounds_toArray]
    try simp only [List.set_cons_succ, List.set_cons_zero]
    refine wpAnyH_take (i := 10) (v := .pointer (some ⟨a.J, 0, none⟩)) rfl (by kernel_rfl) (by kernel_rfl) (by kernel_rfl) (fun _ _ _ h => h) (Or.inl ⟨by kernel_rfl, fun w1 hSw => by clear hHeld; obtain ⟨q0, q2, q3⟩ := hSw; go_simp⟩) hHeld ?_
    try simp only [Act.put]
    try simp only [List.getElem_toArray]
    try simp only [List.getElem_cons_succ]
    try simp only [List.getElem_cons_zero]
    try simp only [List.setIfInBounds_toArray]
    try simp only [List.set_cons_succ, List.set_cons_zero]
    refine wpAnyH_take (i := 11) (v := .pointer (some ⟨a.J, 0, none⟩)) rfl (by kernel_rfl) (by kernel_rfl) (by kernel_rfl) (fun _ _ _ h => h) (Or.inl ⟨by kernel_rfl, fun w1 hSw => by clear hHeld; obtain ⟨q0, q2, q3⟩ := hSw; go_simp⟩) hHeld ?_
    try simp only [Act.put]
    try simp only [List.getElem_toArray]
    try simp only [List.getElem_cons_succ]
    try simp only [List.getElem_cons_zero]
    try simp only [List.setIfInBounds_toArray]
    try simp only [List.set_cons_succ, List.set_cons_zero]
    refine wpAnyH_take (i := 12) (v := .pointer (some ⟨a.M, 0, none⟩)) rfl (by kernel_rfl) (by kernel_rfl) (by kernel_rfl) (fun _ _ _ h => h) (Or.inl ⟨by kernel_rfl, fun w1 hSw => by clear hHeld; obtain ⟨q0, q2, q3⟩ := hSw; go_simp⟩) hHeld ?_
    try simp only [Act.put]
    try simp only [List.getElem_toArray]
    try simp only [List.getElem_cons_succ]
    try simp only [List.getElem_cons_zero]
    try simp only [List.setIfInBounds_toArray]
    try simp only [List.set_cons_succ, List.set_cons_zero]
    refine wpAnyH_ready (rs := [8]) (by kernel_rfl) (by simp) ?_
    refine AllReadyH.cons rfl (fun K hK => ?_) AllReadyH.nil
    go_simp
    refine (HTL.out _ HB0.out).mono ?_
    rintro e V1 ⟨rfl, m1, hV1⟩
    have hbV : Below V0.drew.heap.size V0.drew V1 := by rw [hV1]; exact below_dr _ _
    have HB1 := hide (HB0.out.trans (hbV.mono HB0.out.size))
    have HS1 := hide (HC0.out V1 HB1.out)
    clear hV1 hbV m1
    refine hK.out _ _ (HS1.out) (fun hHeld => ?_)
    clear hK K
    try simp only [Act.put]
    try simp only [List.getElem_toArray]
    try simp only [List.getElem_cons_succ]
    try simp only [List.getElem_cons_zero]
    try simp only [List.setIfInBounds_toArray]
    try simp only [List.set_cons_succ, List.set_cons_zero]
    refine wpAnyH_ready (rs := [13]) (by kernel_rfl) (by simp) ?_
    refine AllReadyH.cons rfl (fun K hK => ?_) AllReadyH.nil
    go_simp
    refine (HRs.out _ HB1.out).mono ?_
    rintro e V2 ⟨rfl, hbV⟩
    have HB2 := hide (HB1.out.trans (hbV.mono HB1.out.size))
    have HS2 := hide (HC0.out V2 HB2.out)
    clear hbV
    refine hK.out _ _ (HS2.out) (fun hHeld => ?_)
    clear hK K
    try simp only [Act.put]
    try simp only [List.getElem_toArray]
    try simp only [List.getElem_cons_succ]
    try simp only [List.getElem_cons_zero]
    try simp only [List.setIfInBounds_toArray]
    try simp only [List.set_cons_succ, List.set_cons_zero]
    refine wpAnyH_take (i := 14) (v := .agg #[.int .i64 4, .int .i64 0, .int .i64 0, .int .i64 0, .int .i64 jba, .int .i64 0, .int .i64 (LN : Int), .int .i64 (RC : Int), .int .u64 (RB : Int), .string ⟨#[]⟩, .string ⟨#[]⟩]) rfl (by kernel_rfl) (by kernel_rfl) (by kernel_rfl) (fun _ _ _ h => h) (Or.inl ⟨by kernel_rfl, fun w1 hSw => by clear hHeld; obtain ⟨q0, q2, q3⟩ := hSw; go_simp⟩) hHeld ?_
    try simp only [Act.put]
    try simp only [List.getElem_toArray]
    try simp only [List.getElem_cons_succ]
    try simp only [List.getElem_cons_zero]
    try simp only [List.setIfInBounds_toArray]
    try simp only [List.set_cons_succ, List.set_cons_zero]
    refine wpAnyH_ready (rs := [15]) (by kernel_rfl) (by simp) ?_
    refine AllReadyH.cons rfl (fun K hK => ?_) AllReadyH.nil
    have hM2 : W.Mg V2 w.heap.size (W.Wr.zM 0) := (HB2.out.block _ hBl).trans HM0.out
    have hMl := lt_of_block hM2
    have HM2 := hide hM2
    obtain ⟨q0, q1, q2, q3, q4, q5, q6, q7, q8, q9, q10⟩ := msg_cells hM2
    have zz := hM2.z
    clear hM2
    have HF := hide (W.set11 HM2.out (HBw.out.trans (HB2.out.mono HBw.out.size)) (Nat.le_refl _) (.int .i64 4) (.int .i64 0) (.int .i64 0) (.int .i64 0) (.int .i64 jba) (.int .i64 0) (.int .i64 (LN : Int)) (.int .i64 (RC : Int)) (.int .u64 (RB : Int)) (.string ⟨#[]⟩) (.string ⟨#[]⟩))
    have HSF : Hid (_ ∧ _ ∧ _) := hide (Sq_set HS2.out hJB (.int .i64 4) (.int .i64 0) (.int .i64 0) (.int .i64 0) (.int .i64 jba) (.int .i64 0) (.int .i64 (LN : Int)) (.int .i64 (RC : Int)) (.int .u64 (RB : Int)) (.string ⟨#[]⟩) (.string ⟨#[]⟩))
    go_simp
    refine hK.out _ _ (HSF.out) (fun hHeld => ?_)
    clear hK K
    try simp only [Act.put]
    try simp only [List.getElem_toArray]
    try simp only [List.getElem_cons_succ]
    try simp only [List.getElem_cons_zero]
    try simp only [List.setIfInBounds_toArray]
    try simp only [List.set_cons_succ, List.set_cons_zero]
    refine wpAnyH_done (by kernel_rfl) ?_ _
    go_wp2_with fail
    refine bodyPost_ret (results_m1 rfl _ _ w.heap.size _ rfl HF.out.1 rfl) rfl ?_
    exact ⟨rfl, HF.out.2⟩
end Go.Proofs.YtkfnedhllfdghaaGreatDoor.RN
end

section
namespace Go.Proofs.YtkfnedhllfdghaaGreatDoor.RN
open Go.RowKit Go.Shelf
set_option maxRecDepth 20000

theorem Rm.env {w : World} {a : RA} {r : Rn} {j : Jb} (h : Rm w a r) (hj : r.j = some j) : Env w a.ja.M :=
  ⟨h.tb.t64, h.tb.t10, (h.cl _ 0 (.inr (.inr (.inr ⟨j, hj, .inl rfl⟩)))).1, (h.cl _ 0 (.inr (.inr (.inr ⟨j, hj, .inl rfl⟩)))).2⟩
/-- a row of events that is read -/
theorem own_evs {w : World} {base cap N : Nat} {ad : Option Addr} {T : List Ev} (hN : T.length = N) (h : w.ownsRow base 98 13 (.slice ad N cap) N (ecs T)) (i : Nat) (hi : i < N) :
    ∃ g d, T[i]? = some d ∧ ad = some ⟨g, 0, none⟩ ∧ g < w.heap.size ∧ ∀ k, k < 13 → w.cell? ⟨g, i * 13 + k, none⟩ = d.cs[k]? := by
  subst hN
  obtain ⟨g, cap', cur, e, _, hg, _⟩ := CH.own_form h (by omega)
  injection e with e _ _
  subst e
  refine ⟨g, T[i], List.getElem?_eq_getElem hi, rfl, lt_of_block hg, fun k hk => ?_⟩
  have h1 := ecs_get T i k hi hk
  have h2 : ∃ u, (T[i]).cs[k]? = some u := ⟨_, List.getElem?_eq_getElem (by show k < 13; exact hk)⟩
  obtain ⟨u, hu⟩ := h2
  have k1 := h.cells (g := g) rfl _ _ (h1.trans hu)
  rw [Addr.add_lit, Nat.zero_add] at k1
  rw [hu]
  exact k1
/-- what a round reads beside the event: the job, its number and badge -/
structure Gx (R J : Nat) (jno jba : Int) (V : World) : Prop where
  c6 : V.cell? ⟨R, 6, none⟩ = some (.pointer (some ⟨J, 0, none⟩))
  c1 : V.cell? ⟨J, 1, none⟩ = some (.int .i64 jno)
  c2 : V.cell? ⟨J, 2, none⟩ = some (.int .i64 jba)
theorem Gx.block {R J : Nat} {jno jba : Int} {V V' : World} (h : Gx R J jno jba V) (h1 : V'.heap[R]? = V.heap[R]?) (h2 : V'.heap[J]? = V.heap[J]?) : Gx R J jno jba V' :=
  ⟨(World.cell?_of_block (a := ⟨R, 6, none⟩) h1).trans h.c6, (World.cell?_of_block (a := ⟨J, 1, none⟩) h2).trans h.c1, (World.cell?_of_block (a := ⟨J, 2, none⟩) h2).trans h.c2⟩
/-- the event's box, the events, and the runner as it stands -/
structure Gy (w : World) (a a3 : RA) (r r3 : Rn) (X B : Nat) (v : Value) (N : Nat) (xs : List Value) (cs : Array Value) (V : World) : Prop where
  st : St w a r V a3 r3
  bx : V.heap[X]? = some (.cells cs 98 (0, 0))
  nw : ∀ b i, a3.d r3 b i → b ≠ X
  ev : V.ownsRow B 98 13 v N xs
  nv : v.ownBlock ≠ some X
section
variable {w : World} {a a3 : RA} {r r3 : Rn} {X B N : Nat} {v : Value} {xs : List Value} {cs : Array Value} {V V' : World}
theorem Gy.up (h : Gy w a a3 r r3 X B v N xs cs V) (hb : Below V.heap.size V V') : Gy w a a3 r r3 X B v N xs cs V' :=
  ⟨h.st.low hb, (hb.block _ (lt_of_block h.bx)).trans h.bx, h.nw, CH.own_below h.ev hb, h.nv⟩
theorem Gy.set (h : Gy w a a3 r r3 X B v N xs cs V) (hX : w.heap.size ≤ X) (o : Nat) (u : Value) : Gy w a a3 r r3 X B v N xs (cs.setIfInBounds o u) (V.setCell ⟨X, o, none⟩ u) := by
  have kp : Kp (fun b _ => b = X) V (V.setCell ⟨X, o, none⟩ u) := Kp.of_on (on_set V X o u) h.bx (by decide) (fun _ => rfl)
  exact ⟨⟨h.st.rm.kp kp (fun b i hd e => h.nw b i hd e), h.st.R, h.st.C, h.st.kp.trans kp (fun b i e => .inr (e ▸ hX)), h.st.g, h.st.d⟩, own_set V X o u _ _ _ h.bx, h.nw, CH.own_keep h.ev (fun k hk => Below.heap_setCell _ ⟨X, o, none⟩ _ k (fun e => h.nv (hk.trans (congrArg some e)))), h.nv⟩
theorem Gy.gx {j : Jb} (h : Gy w a a3 r r3 X B v N xs cs V) (hj : r3.j = some j) : Gx a.R a3.ja.J j.no j.ba V := by
  have c6 := h.st.rm.c6
  rw [h.st.R, hj] at c6
  exact ⟨c6, (h.st.rm.j j hj).c1_, (h.st.rm.j j hj).c2_⟩
theorem ev_cells {c0 c1 c2 c3 c4 c5 c6 c7 c8 c9 c10 c11 c12 : Value} {t : TypeId} (h : V.heap[X]? = some (.cells #[c0, c1, c2, c3, c4, c5, c6, c7, c8, c9, c10, c11, c12] t (0, 0))) :
    V.cell? ⟨X, 0, none⟩ = some c0 ∧ V.cell? ⟨X, 1, none⟩ = some c1 ∧ V.cell? ⟨X, 2, none⟩ = some c2 ∧ V.cell? ⟨X, 3, none⟩ = some c3 ∧ V.cell? ⟨X, 4, none⟩ = some c4 ∧ V.cell? ⟨X, 5, none⟩ = some c5 ∧ V.cell? ⟨X, 6, none⟩ = some c6 ∧ V.cell? ⟨X, 7, none⟩ = some c7 ∧ V.cell? ⟨X, 8, none⟩ = some c8 ∧ V.cell? ⟨X, 9, none⟩ = some c9 ∧ V.cell? ⟨X, 10, none⟩ = some c10 ∧ V.cell? ⟨X, 11, none⟩ = some c11 ∧ V.cell? ⟨X, 12, none⟩ = some c12 :=
  ⟨cell_of h rfl, cell_of h rfl, cell_of h rfl, cell_of h rfl, cell_of h rfl, cell_of h rfl, cell_of h rfl, cell_of h rfl, cell_of h rfl, cell_of h rfl, cell_of h rfl, cell_of h rfl, cell_of h rfl⟩
theorem blk_z {t : TypeId} (h : V.heap[X]? = some (.cells cs t (0, 0))) (k : Nat) : V.frozen? ⟨X, k, none⟩ = false := by simp [World.frozen?, h]
end
theorem reck_go {who : Ev → Ev} {n : Nat} {j : Jb} {T : List Ev} (h : j.goes = true) : reck who (n + 1) j T = reck who n j.nx (T ++ j.es.map who) := by rw [reck, if_pos h]
theorem reck_no {who : Ev → Ev} {n : Nat} {j : Jb} {T : List Ev} (h : j.goes = false) : reck who n j T = (j, T) := by
  cases n with
  | zero => rfl
  | succ n => rw [reck, if_neg (by rw [h]; decide)]
set_option maxHeartbeats 16000000 in
theorem reckon_any {w : World} {a : RA} {r : Rn} {j : Jb} (h : Rm w a r) (hk : r.ok) (hj : r.j = some j) (hT : r.T.length ≤ 1000000000) :
    Calls Tryz.prog 42 #[.pointer (some ⟨a.R, 0, none⟩)] w fun e w' => e = .returned (.tuple #[]) ∧ ∃ a', St w a r w' a' { r with j := some (reck (r.who j) r.qu j r.T).1, T := (reck (r.who j) r.qu j r.T).2 } := by
  obtain ⟨iE, hiE, zE0, zE1, zE2⟩ := CH.info_parts infoEv
  have c4 := h.c4
  have HS0 : Hid (St w a r w a { r with j := some j, T := r.T }) := hide (by have := St.refl h; rw [← hj]; exact this)
  have HK0 := hide (hk.j j hj)
  have h8 := hk.s8
  have hq := hk.q2
  obtain ⟨wh, hwh⟩ : ∃ wh, r.who j = wh := ⟨_, rfl⟩
  have HWh : Hid (∀ d : Ev, wh d = d.of (2 + (r.sl : Int)) (r.li : Int) j.no j.ba) := hide fun d => by rw [← hwh]; rfl
  have HWe := hide hwh
  clear h hk hj hwh
  obtain ⟨q, hqq⟩ : ∃ q, r.qu = q := ⟨_, rfl⟩
  have HQ := hide hqq
  rw [hqq] at c4 hq
  clear hqq
  go_enter Tryz.func42, Tryz.ntmps42
  go_wp2_with fail
  go_loopw [3, 8] (fun _ c wr => ∃ (k : Nat) (a1 : RA) (j1 : Jb) (T1 : List Ev), c = .int .i64 (k : Int) ∧ k ≤ q ∧ Hid (St w a r wr a1 { r with j := some j1, T := T1 }) ∧ Hid (reck wh (q - k) j1 T1 = reck wh q j r.T) ∧ Hid j1.ok ∧ Hid (j1.no = j.no ∧ j1.ba = j.ba) ∧ Hid (T1.length ≤ r.T.length + 2 * k)) (fun _ c _ => q - (intOf c).toNat)
  case atStart => exact ⟨0, a, j, r.T, rfl, Nat.zero_le _, HS0, hide rfl, HK0, hide ⟨rfl, rfl⟩, hide (Nat.le_refl _)⟩
  case round =>
    clear c4
    obtain ⟨k, a1, j1, T1, rfl, hkq, HSt, HRe, HOk, HNo, HTl⟩ := hrel
    by_cases hkl : k < q
    · have c6 := HSt.out.rm.c6
      rw [HSt.out.R] at c6
      replace c6 : wr.cell? ⟨a.R, 6, none⟩ = some (.pointer (some ⟨a1.ja.J, 0, none⟩)) := c6
      have HG := hide (goes_any (HSt.out.rm.j j1 rfl) HOk.out)
      cases hg : j1.goes with
      | false =>
        rw [hg] at HG
        have HR := hide (reck_no (who := wh) (n := q - k) (T := T1) hg)
        clear hg
        go_wp2_with fail
        refine HG.out.mono ?_
        rintro e w1 ⟨rfl, hb1⟩
        have HS1 := hide (HSt.out.low hb1)
        clear hb1 c6
        go_wp2_with fail
        refine bodyPost_ret (results_none rfl _ _ _) rfl ?_
        refine ⟨rfl, a1, ?_⟩
        have e9 : reck wh r.qu j r.T = (j1, T1) := by rw [HQ.out, ← HRe.out, HR.out]
        rw [HWe.out, e9]
        exact HS1.out
      | true =>
        rw [hg] at HG
        have HR := hide (reck_go (who := wh) (n := q - k - 1) (T := T1) hg)
        have HN : Hid (∀ w1 : World, Below wr.heap.size wr w1 → _) := hide fun w1 (hb : Below wr.heap.size wr w1) => next_any ((HSt.out.low hb).rm.j j1 rfl) HOk.out (Jb.goes_ov hg) ((HSt.out.low hb).rm.env rfl)
        have HOk2 := hide (Jb.nx_ok HOk.out (Jb.goes_ov hg))
        clear hg
        go_wp2_with fail
        refine HG.out.mono ?_
        rintro e w1 ⟨rfl, hb1⟩
        have HS1 := hide (HSt.out.low hb1)
        have HN1 := hide (HN.out w1 hb1)
        clear hb1 c6 HN HG
        have c6 := HS1.out.rm.c6
        rw [HS1.out.R] at c6
        replace c6 : w1.cell? ⟨a.R, 6, none⟩ = some (.pointer (some ⟨a1.ja.J, 0, none⟩)) := c6
        go_wp2_with fail
        refine HN1.out.mono ?_
        rintro e w2 ⟨v, ja2, rfl, hrow, hjs⟩
        obtain ⟨adv, capv, hv⟩ := CH.own_slice hrow
        subst hv
        have HS2 : Hid (St w a r w2 { a1 with ja := ja2 } { r with j := some j1.nx, T := T1 }) := hide (HS1.out.trans (St.job HS1.out.rm rfl hjs))
        have hJ2 : ja2.J = a1.ja.J := hjs.J
        have hes := j1.es_len
        have hno : j1.nx.no = j.no := HNo.out.1
        have hba : j1.nx.ba = j.ba := HNo.out.2
        have HNb := hide (⟨hno, hba⟩ : _ ∧ _)
        have hs12 : w1.heap.size ≤ w2.heap.size := hjs.kp.size
        have hsw : w.heap.size ≤ w1.heap.size := HS1.out.kp.size
        have HTb : Hid (∀ b, a1.tv.ownBlock = some b → (Value.slice adv j1.es.length capv).ownBlock ≠ some b) := hide fun b hb e => by
          have h1 := (hrow.lt b e).1
          have h2 := (HS1.out.rm.tl.lt b hb).2
          omega
        have HRw := hide hrow
        have HHe : Hid (2 ≤ j1.es.length → True) := hide fun _ => trivial
        obtain ⟨es, hes0⟩ : ∃ es, j1.es = es := ⟨_, rfl⟩
        have HEs := hide hes0
        obtain ⟨N, hN⟩ : ∃ N, es.length = N := ⟨_, rfl⟩
        rw [hes0, hN] at HRw HTb
        rw [hes0, hN] at hes
        rw [hes0, hN]
        have HNn := hide hN
        have hTl := HTl.out
        clear hrow hjs hes0 hN HHe c6 HN1 hno hba
        go_wp2_with fail
        go_loopw [3, 22] (fun _ c wv => ∃ (i : Nat) (a3 : RA), c = .int .i64 (i : Int) ∧ i ≤ N ∧ Hid (St w a r wv a3 { r with j := some j1.nx, T := T1 ++ (es.take i).map wh }) ∧ Hid (wv.ownsRow w1.heap.size 98 13 (.slice adv N capv) N (ecs es)) ∧ Hid (∀ b, a3.tv.ownBlock = some b → (Value.slice adv N capv).ownBlock ≠ some b)) (fun _ c _ => N - (intOf c).toNat)
        case atStart => exact ⟨0, { a1 with ja := ja2 }, rfl, Nat.zero_le _, by rw [List.take_zero, List.map_nil, List.append_nil]; exact HS2, HRw, HTb⟩
        case round =>
          clear HS2 HRw HTb
          obtain ⟨i, a3, rfl, hiN, HS3, HRw, HTb⟩ := hrel
          by_cases hil : i < N
          · obtain ⟨g, d, hd, hg, hgl, hcs⟩ := own_evs HNn.out HRw.out i hil
            subst hg
            have HTk : Hid ((es.take (i + 1)).map wh = (es.take i).map wh ++ [wh d]) := hide (by rw [List.take_add_one, List.map_append, hd]; rfl)
            have hwd := HWh.out d
            obtain ⟨dk, dn, dl, djo, dba, dix, dco, drc, drb, dtx⟩ := d
            have f0 := hcs 0 (by decide)
            have f1 := hcs 1 (by decide)
            have f2 := hcs 2 (by decide)
            have f3 := hcs 3 (by decide)
            have f4 := hcs 4 (by decide)
            have f5 := hcs 5 (by decide)
            have f6 := hcs 6 (by decide)
            have f7 := hcs 7 (by decide)
            have f8 := hcs 8 (by decide)
            have f9 := hcs 9 (by decide)
            have f10 := hcs 10 (by decide)
            have f11 := hcs 11 (by decide)
            have f12 := hcs 12 (by decide)
            simp only [Ev.cs, Nat.add_zero, List.getElem?_cons_zero, List.getElem?_cons_succ] at f0 f1 f2 f3 f4 f5 f6 f7 f8 f9 f10 f11 f12
            have HWd : Hid (wh ⟨dk, dn, dl, djo, dba, dix, dco, drc, drb, dtx⟩ = ⟨dk, 2 + (r.sl : Int), (r.li : Int), j.no, j.ba, dix, dco, drc, drb, dtx⟩) := hide hwd
            clear hcs hd hwd
            go_upto_region 6 with fail
            clear f0 f1 f2 f3 f4 f5 f6 f7 f8 f9 f10 f11 f12
            obtain ⟨r3, hr3⟩ : ∃ r3 : Rn, { r with j := some j1.nx, T := T1 ++ (es.take i).map wh } = r3 := ⟨_, rfl⟩
            rw [hr3] at HS3
            have HR3 : Hid ({ r with j := some j1.nx, T := T1 ++ (es.take (i + 1)).map wh } = { r3 with T := r3.T ++ [⟨dk, 2 + (r.sl : Int), (r.li : Int), j.no, j.ba, dix, dco, drc, drb, dtx⟩] }) := hide (by rw [← hr3, HTk.out, HWd.out]; simp)
            have HRj : Hid (r3.j = some j1.nx) := hide (by rw [← hr3])
            have hRs : r3.sl = r.sl := by rw [← hr3]
            have hRl : r3.li = r.li := by rw [← hr3]
            have hNT : r3.T.length ≤ 1000001000 := by
              rw [← hr3]
              show (T1 ++ (es.take i).map wh).length ≤ _
              have h1 := HNn.out
              simp only [List.length_append, List.length_map, List.length_take]
              omega
            clear hr3 HTk HWd
            have HAd : Hid (∀ (X B : Nat) (v : Value) (N : Nat) (xs : List Value) (cs : Array Value) (V : World), Gy w a a3 r r3 X B v N xs cs V → Calls Tryz.prog 88 #[.pointer (some ⟨a.R, 0, none⟩)] V fun e w' => e = .returned (.agg #[.int .i64 (2 + (r.sl : Int)), .int .i64 (r.li : Int)]) ∧ Below V.heap.size V w') := hide fun X B v N xs cs V hV => by
              have h1 := addr_any hV.st.rm (by rw [hRs]; exact h8)
              rw [hV.st.R, hRs, hRl] at h1
              exact h1
            obtain ⟨V0, hV0⟩ : ∃ V0, wr.alloc (.cells #[.int .i64 dk, .int .i64 0, .int .i64 dn, .int .i64 dl, .int .i64 djo, .int .i64 dba, .int .i64 dix, .int .i64 dco, .int .i64 0, .int .i64 drc, .int .u64 (drb : Int), .string dtx, .slice none 0 0] 98) = V0 := ⟨_, rfl⟩
            have hXw : w.heap.size ≤ wr.heap.size := HS3.out.kp.size
            have HY0 : Hid (Gy w a a3 r r3 wr.heap.size w1.heap.size (.slice (some ⟨g, 0, none⟩) N capv) N (ecs es) #[.int .i64 dk, .int .i64 0, .int .i64 dn, .int .i64 dl, .int .i64 djo, .int .i64 dba, .int .i64 dix, .int .i64 dco, .int .i64 0, .int .i64 drc, .int .u64 (drb : Int), .string dtx, .slice none 0 0] V0.drew) := by
              have hx := heap_alloc_new wr (.cells #[.int .i64 dk, .int .i64 0, .int .i64 dn, .int .i64 dl, .int .i64 djo, .int .i64 dba, .int .i64 dix, .int .i64 dco, .int .i64 0, .int .i64 drc, .int .u64 (drb : Int), .string dtx, .slice none 0 0] 98)
              rw [hV0] at hx
              have hb : Below wr.heap.size wr V0.drew := by rw [← hV0]; exact CH.below_drew (CH.below_alloc wr _)
              exact ⟨HS3.out.low hb, hx, fun b i hd => by have := HS3.out.rm.lt hd; omega, CH.own_below HRw.out hb, fun e => by have := (HRw.out.lt _ e).2; omega⟩
            rw [hV0]
            obtain ⟨X, hX⟩ : ∃ X, wr.heap.size = X := ⟨_, rfl⟩
            rw [hX] at HY0 hXw
            try rw [hX]
            clear hV0 hX HS3 HRw hgl
            refine wp_region_held_drew (S := fun V => Gx a.R a3.ja.J j1.nx.no j1.nx.ba V) (by kernel_rfl) (HY0.out.gx HRj.out) (fun hHeld => ?_)
            refine wpAnyH_take (i := 0) (v := .pointer (some ⟨a.R, 0, none⟩)) rfl (by kernel_rfl) (by kernel_rfl) (by kernel_rfl) (fun _ _ _ h => h) (Or.inl ⟨by kernel_rfl, fun w1 hSw => by clear hHeld; have q6 := hSw.c6; have q1 := hSw.c1; have q2 := hSw.c2; go_simp⟩) hHeld ?_
            try simp only [Act.put]
            try simp only [List.getElem_toArray]
            try simp only [List.getElem_cons_succ]
            try simp only [List.getElem_cons_zero]
            try simp only [List.setIfInBounds_toArray]
            try simp only [List.set_cons_succ, List.set_cons_zero]
            refine wpAnyH_take (i := 2) (v := .pointer (some ⟨a.R, 0, none⟩)) rfl (by kernel_rfl) (by kernel_rfl) (by kernel_rfl) (fun _ _ _ h => h) (Or.inl ⟨by kernel_rfl, fun w1 hSw => by clear hHeld; have q6 := hSw.c6; have q1 := hSw.c1; have q2 := hSw.c2; go_simp⟩) hHeld ?_
            try simp only [Act.put]
            try simp only [List.getElem_toArray]
            try simp only [List.getElem_cons_succ]
            try simp only [List.getElem_cons_zero]
            try simp only [List.setIfInBounds_toArray]
            try simp only [List.set_cons_succ, List.set_cons_zero]
            refine wpAnyH_take (i := 3) (v := .pointer (some ⟨a.R, 0, none⟩)) rfl (by kernel_rfl) (by kernel_rfl) (by kernel_rfl) (fun _ _ _ h => h) (Or.inl ⟨by kernel_rfl, fun w1 hSw => by clear hHeld; have q6 := hSw.c6; have q1 := hSw.c1; have q2 := hSw.c2; go_simp⟩) hHeld ?_
            try simp only [Act.put]
            try simp only [List.getElem_toArray]
            try simp only [List.getElem_cons_succ]
            try simp only [List.getElem_cons_zero]
            try simp only [List.setIfInBounds_toArray]
            try simp only [List.set_cons_succ, List.set_cons_zero]
            refine wpAnyH_take (i := 4) (v := .pointer (some ⟨a.R, 6, none⟩)) rfl (by kernel_rfl) (by kernel_rfl) (by kernel_rfl) (fun _ _ _ h => h) (Or.inl ⟨by kernel_rfl, fun w1 hSw => by clear hHeld; have q6 := hSw.c6; have q1 := hSw.c1; have q2 := hSw.c2; go_simp⟩) hHeld ?_
            try simp only [Act.put]
            try simp only [List.getElem_toArray]
            try simp only [List.getElem_cons_succ]
            try simp only [List.getElem_cons_zero]
            try simp only [List.setIfInBounds_toArray]
            try simp only [List.set_cons_succ, List.set_cons_zero]
            refine wpAnyH_take (i := 5) (v := .pointer (some ⟨a3.ja.J, 0, none⟩)) rfl (by kernel_rfl) (by kernel_rfl) (by kernel_rfl) (fun _ _ _ h => h) (Or.inl ⟨by kernel_rfl, fun w1 hSw => by clear hHeld; have q6 := hSw.c6; have q1 := hSw.c1; have q2 := hSw.c2; go_simp⟩) hHeld ?_
            try simp only [Act.put]
            try simp only [List.getElem_toArray]
            try simp only [List.getElem_cons_succ]
            try simp only [List.getElem_cons_zero]
            try simp only [List.setIfInBounds_toArray]
            try simp only [List.set_cons_succ, List.set_cons_zero]
            refine wpAnyH_take (i := 6) (v := .pointer (some ⟨a3.ja.J, 0, none⟩)) rfl (by kernel_rfl) (by kernel_rfl) (by kernel_rfl) (fun _ _ _ h => h) (Or.inl ⟨by kernel_rfl, fun w1 hSw => by clear hHeld; have q6 := hSw.c6; have q1 := hSw.c1; have q2 := hSw.c2; go_simp⟩) hHeld ?_
            try simp only [Act.put]
            try simp only [List.getElem_toArray]
            try simp only [List.getElem_cons_succ]
            try simp only [List.getElem_cons_zero]
            try simp only [List.setIfInBounds_toArray]
            try simp only [List.set_cons_succ, List.set_cons_zero]
            refine wpAnyH_take (i := 7) (v := .pointer (some ⟨a3.ja.J, 1, none⟩)) rfl (by kernel_rfl) (by kernel_rfl) (by kernel_rfl) (fun _ _ _ h => h) (Or.inl ⟨by kernel_rfl, fun w1 hSw => by clear hHeld; have q6 := hSw.c6; have q1 := hSw.c1; have q2 := hSw.c2; go_simp⟩) hHeld ?_
            try simp only [Act.put]
            try simp only [List.getElem_toArray]
            try simp only [List.getElem_cons_succ]
            try simp only [List.getElem_cons_zero]
            try simp only [List.setIfInBounds_toArray]
            try simp only [List.set_cons_succ, List.set_cons_zero]
            refine wpAnyH_take (i := 8) (v := .int .i64 j1.nx.no) rfl (by kernel_rfl) (by kernel_rfl) (by kernel_rfl) (fun _ _ _ h => h) (Or.inl ⟨by kernel_rfl, fun w1 hSw => by clear hHeld; have q6 := hSw.c6; have q1 := hSw.c1; have q2 := hSw.c2; go_simp⟩) hHeld ?_
            try simp only [Act.put]
            try simp only [List.getElem_toArray]
            try simp only [List.getElem_cons_succ]
            try simp only [List.getElem_cons_zero]
            try simp only [List.setIfInBounds_toArray]
            try simp only [List.set_cons_succ, List.set_cons_zero]
            refine wpAnyH_take (i := 9) (v := .pointer (some ⟨a.R, 0, none⟩)) rfl (by kernel_rfl) (by kernel_rfl) (by kernel_rfl) (fun _ _ _ h => h) (Or.inl ⟨by kernel_rfl, fun w1 hSw => by clear hHeld; have q6 := hSw.c6; have q1 := hSw.c1; have q2 := hSw.c2; go_simp⟩) hHeld ?_
            try simp only [Act.put]
            try simp only [List.getElem_toArray]
            try simp only [List.getElem_cons_succ]
            try simp only [List.getElem_cons_zero]
            try simp only [List.setIfInBounds_toArray]
            try simp only [List.set_cons_succ, List.set_cons_zero]
            refine wpAnyH_take (i := 10) (v := .pointer (some ⟨a.R, 0, none⟩)) rfl (by kernel_rfl) (by kernel_rfl) (by kernel_rfl) (fun _ _ _ h => h) (Or.inl ⟨by kernel_rfl, fun w1 hSw => by clear hHeld; have q6 := hSw.c6; have q1 := hSw.c1; have q2 := hSw.c2; go_simp⟩) hHeld ?_
            try simp only [Act.put]
            try simp only [List.getElem_toArray]
            try simp only [List.getElem_cons_succ]
            try simp only [List.getElem_cons_zero]
            try simp only [List.setIfInBounds_toArray]
            try simp only [List.set_cons_succ, List.set_cons_zero]
            refine wpAnyH_take (i := 11) (v := .pointer (some ⟨a.R, 6, none⟩)) rfl (by kernel_rfl) (by kernel_rfl) (by kernel_rfl) (fun _ _ _ h => h) (Or.inl ⟨by kernel_rfl, fun w1 hSw => by clear hHeld; have q6 := hSw.c6; have q1 := hSw.c1; have q2 := hSw.c2; go_simp⟩) hHeld ?_
            try simp only [Act.put]
            try simp only [List.getElem_toArray]
            try simp only [List.getElem_cons_succ]
            try simp only [List.getElem_cons_zero]
            try simp only [List.setIfInBounds_toArray]
            try simp only [List.set_cons_succ, List.set_cons_zero]
            refine wpAnyH_take (i := 12) (v := .pointer (some ⟨a3.ja.J, 0, none⟩)) rfl (by kernel_rfl) (by kernel_rfl) (by kernel_rfl) (fun _ _ _ h => h) (Or.inl ⟨by kernel_rfl, fun w1 hSw => by clear hHeld; have q6 := hSw.c6; have q1 := hSw.c1; have q2 := hSw.c2; go_simp⟩) hHeld ?_
            try simp only [Act.put]
            try simp only [List.getElem_toArray]
            try simp only [List.getElem_cons_succ]
            try simp only [List.getElem_cons_zero]
            try simp only [List.setIfInBounds_toArray]
            try simp only [List.set_cons_succ, List.set_cons_zero]
            refine wpAnyH_take (i := 13) (v := .pointer (some ⟨a3.ja.J, 0, none⟩)) rfl (by kernel_rfl) (by kernel_rfl) (by kernel_rfl) (fun _ _ _ h => h) (Or.inl ⟨by kernel_rfl, fun w1 hSw => by clear hHeld; have q6 := hSw.c6; have q1 := hSw.c1; have q2 := hSw.c2; go_simp⟩) hHeld ?_
            try simp only [Act.put]
            try simp only [List.getElem_toArray]
            try simp only [List.getElem_cons_succ]
            try simp only [List.getElem_cons_zero]
            try simp only [List.setIfInBounds_toArray]
            try simp only [List.set_cons_succ, List.set_cons_zero]
            refine wpAnyH_take (i := 14) (v := .pointer (some ⟨a3.ja.J, 2, none⟩)) rfl (by kernel_rfl) (by kernel_rfl) (by kernel_rfl) (fun _ _ _ h => h) (Or.inl ⟨by kernel_rfl, fun w1 hSw => by clear hHeld; have q6 := hSw.c6; have q1 := hSw.c1; have q2 := hSw.c2; go_simp⟩) hHeld ?_
            try simp only [Act.put]
            try simp only [List.getElem_toArray]
            try simp only [List.getElem_cons_succ]
            try simp only [List.getElem_cons_zero]
            try simp only [List.setIfInBounds_toArray]
            try simp only [List.set_cons_succ, List.set_cons_zero]
            refine wpAnyH_take (i := 15) (v := .int .i64 j1.nx.ba) rfl (by kernel_rfl) (by kernel_rfl) (by kernel_rfl) (fun _ _ _ h => h) (Or.inl ⟨by kernel_rfl, fun w1 hSw => by clear hHeld; have q6 := hSw.c6; have q1 := hSw.c1; have q2 := hSw.c2; go_simp⟩) hHeld ?_
            try simp only [Act.put]
            try simp only [List.getElem_toArray]
            try simp only [List.getElem_cons_succ]
            try simp only [List.getElem_cons_zero]
            try simp only [List.setIfInBounds_toArray]
            try simp only [List.set_cons_succ, List.set_cons_zero]
            refine wpAnyH_ready (rs := [1]) (by kernel_rfl) (by simp) ?_
            refine AllReadyH.cons rfl (fun K hK => ?_) AllReadyH.nil
            go_simp
            refine (HAd.out _ _ _ _ _ _ _ HY0.out).mono ?_
            rintro e V1 ⟨rfl, hb⟩
            have HY1 := hide (HY0.out.up hb)
            clear hb
            refine hK.out _ _ (HY1.out.gx HRj.out) (fun hHeld => ?_)
            clear hK K
            try simp only [Act.put]
            try simp only [List.getElem_toArray]
            try simp only [List.getElem_cons_succ]
            try simp only [List.getElem_cons_zero]
            try simp only [List.setIfInBounds_toArray]
            try simp only [List.set_cons_succ, List.set_cons_zero]
            refine wpAnyH_take (i := 16) (v := .pointer (some ⟨X, 2, none⟩)) rfl (by kernel_rfl) (by kernel_rfl) (by kernel_rfl) (fun _ _ _ h => h) (Or.inl ⟨by kernel_rfl, fun w1 hSw => by clear hHeld; have q6 := hSw.c6; have q1 := hSw.c1; have q2 := hSw.c2; go_simp⟩) hHeld ?_
            try simp only [Act.put]
            try simp only [List.getElem_toArray]
            try simp only [List.getElem_cons_succ]
            try simp only [List.getElem_cons_zero]
            try simp only [List.setIfInBounds_toArray]
            try simp only [List.set_cons_succ, List.set_cons_zero]
            refine wpAnyH_ready (rs := [17]) (by kernel_rfl) (by simp) ?_
            refine AllReadyH.cons rfl (fun K hK => ?_) AllReadyH.nil
            have hz := blk_z HY1.out.bx
            obtain ⟨c0, c1, c2, c3, c4, c5, c6, c7, c8, c9, c10, c11, c12⟩ := ev_cells HY1.out.bx
            have hXl := lt_of_block HY1.out.bx
            have HY2 : Hid (Gy w a a3 r r3 X w1.heap.size (.slice (some ⟨g, 0, none⟩) N capv) N (ecs es) #[.int .i64 dk, .int .i64 0, .int .i64 (2 + (r.sl : Int)), .int .i64 (r.li : Int), .int .i64 djo, .int .i64 dba, .int .i64 dix, .int .i64 dco, .int .i64 0, .int .i64 drc, .int .u64 (drb : Int), .string dtx, .slice none 0 0] ((V1.setCell ⟨X, 2, none⟩ (.int .i64 (2 + (r.sl : Int)))).setCell ⟨X, 3, none⟩ (.int .i64 (r.li : Int)))) := hide ((HY1.out.set hXw 2 _).set hXw 3 _)
            clear hHeld
            go_simp
            obtain ⟨V2, hV⟩ : ∃ V, ((V1.setCell ⟨X, 2, none⟩ (.int .i64 (2 + (r.sl : Int)))).setCell ⟨X, 3, none⟩ (.int .i64 (r.li : Int))) = V := ⟨_, rfl⟩
            rw [hV] at HY2 ⊢
            clear hV hz hXl c0 c1 c2 c3 c4 c5 c6 c7 c8 c9 c10 c11 c12
            refine hK.out _ _ (HY2.out.gx HRj.out) (fun hHeld => ?_)
            clear hK K
            try simp only [Act.put]
            try simp only [List.getElem_toArray]
            try simp only [List.getElem_cons_succ]
            try simp only [List.getElem_cons_zero]
            try simp only [List.setIfInBounds_toArray]
            try simp only [List.set_cons_succ, List.set_cons_zero]
            refine wpAnyH_take (i := 18) (v := .pointer (some ⟨X, 4, none⟩)) rfl (by kernel_rfl) (by kernel_rfl) (by kernel_rfl) (fun _ _ _ h => h) (Or.inl ⟨by kernel_rfl, fun w1 hSw => by clear hHeld; have q6 := hSw.c6; have q1 := hSw.c1; have q2 := hSw.c2; go_simp⟩) hHeld ?_
            try simp only [Act.put]
            try simp only [List.getElem_toArray]
            try simp only [List.getElem_cons_succ]
            try simp only [List.getElem_cons_zero]
            try simp only [List.setIfInBounds_toArray]
            try simp only [List.set_cons_succ, List.set_cons_zero]
            refine wpAnyH_ready (rs := [19]) (by kernel_rfl) (by simp) ?_
            refine AllReadyH.cons rfl (fun K hK => ?_) AllReadyH.nil
            have hz := blk_z HY2.out.bx
            obtain ⟨c0, c1, c2, c3, c4, c5, c6, c7, c8, c9, c10, c11, c12⟩ := ev_cells HY2.out.bx
            have hXl := lt_of_block HY2.out.bx
            have HY3 : Hid (Gy w a a3 r r3 X w1.heap.size (.slice (some ⟨g, 0, none⟩) N capv) N (ecs es) #[.int .i64 dk, .int .i64 0, .int .i64 (2 + (r.sl : Int)), .int .i64 (r.li : Int), .int .i64 j1.nx.no, .int .i64 dba, .int .i64 dix, .int .i64 dco, .int .i64 0, .int .i64 drc, .int .u64 (drb : Int), .string dtx, .slice none 0 0] (V2.setCell ⟨X, 4, none⟩ (.int .i64 j1.nx.no))) := hide (HY2.out.set hXw 4 _)
            clear hHeld
            go_simp
            obtain ⟨V3, hV⟩ : ∃ V, (V2.setCell ⟨X, 4, none⟩ (.int .i64 j1.nx.no)) = V := ⟨_, rfl⟩
            rw [hV] at HY3 ⊢
            clear hV hz hXl c0 c1 c2 c3 c4 c5 c6 c7 c8 c9 c10 c11 c12
            refine hK.out _ _ (HY3.out.gx HRj.out) (fun hHeld => ?_)
            clear hK K
            try simp only [Act.put]
            try simp only [List.getElem_toArray]
            try simp only [List.getElem_cons_succ]
            try simp only [List.getElem_cons_zero]
            try simp only [List.setIfInBounds_toArray]
            try simp only [List.set_cons_succ, List.set_cons_zero]
            refine wpAnyH_take (i := 20) (v := .pointer (some ⟨X, 5, none⟩)) rfl (by kernel_rfl) (by kernel_rfl) (by kernel_rfl) (fun _ _ _ h => h) (Or.inl ⟨by kernel_rfl, fun w1 hSw => by clear hHeld; have q6 := hSw.c6; have q1 := hSw.c1; have q2 := hSw.c2; go_simp⟩) hHeld ?_
            try simp only [Act.put]
            try simp only [List.getElem_toArray]
            try simp only [List.getElem_cons_succ]
            try simp only [List.getElem_cons_zero]
            try simp only [List.setIfInBounds_toArray]
            try simp only [List.set_cons_succ, List.set_cons_zero]
            refine wpAnyH_ready (rs := [21]) (by kernel_rfl) (by simp) ?_
            refine AllReadyH.cons rfl (fun K hK => ?_) AllReadyH.nil
            have hz := blk_z HY3.out.bx
            obtain ⟨c0, c1, c2, c3, c4, c5, c6, c7, c8, c9, c10, c11, c12⟩ := ev_cells HY3.out.bx
            have hXl := lt_of_block HY3.out.bx
            have HY4 : Hid (Gy w a a3 r r3 X w1.heap.size (.slice (some ⟨g, 0, none⟩) N capv) N (ecs es) #[.int .i64 dk, .int .i64 0, .int .i64 (2 + (r.sl : Int)), .int .i64 (r.li : Int), .int .i64 j1.nx.no, .int .i64 j1.nx.ba, .int .i64 dix, .int .i64 dco, .int .i64 0, .int .i64 drc, .int .u64 (drb : Int), .string dtx, .slice none 0 0] (V3.setCell ⟨X, 5, none⟩ (.int .i64 j1.nx.ba))) := hide (HY3.out.set hXw 5 _)
            clear hHeld
            go_simp
            obtain ⟨V4, hV⟩ : ∃ V, (V3.setCell ⟨X, 5, none⟩ (.int .i64 j1.nx.ba)) = V := ⟨_, rfl⟩
            rw [hV] at HY4 ⊢
            clear hV hz hXl c0 c1 c2 c3 c4 c5 c6 c7 c8 c9 c10 c11 c12
            refine hK.out _ _ (HY4.out.gx HRj.out) (fun hHeld => ?_)
            clear hK K
            try simp only [Act.put]
            try simp only [List.getElem_toArray]
            try simp only [List.getElem_cons_succ]
            try simp only [List.getElem_cons_zero]
            try simp only [List.setIfInBounds_toArray]
            try simp only [List.set_cons_succ, List.set_cons_zero]
            refine wpAnyH_done (by kernel_rfl) ?_ _
            clear hHeld HY0 HY1 HY2 HY3 HAd
            go_upto_region 7 with fail
            obtain ⟨adt, capt, hTv⟩ := CH.own_slice HY4.out.st.rm.tl
            obtain ⟨NT, hNTe⟩ : ∃ NT, r3.T.length = NT := ⟨_, rfl⟩
            rw [hNTe] at hTv hNT
            have c7 := HY4.out.st.rm.c7
            rw [HY4.out.st.R, hTv] at c7
            have HTv := hide hTv
            have HNt := hide hNTe
            have HBx := hide HY4.out.bx
            have hRX : a.R ≠ X := fun e => HY4.out.nw a3.R 0 (.inl rfl) (HY4.out.st.R.trans e)
            have HRt : Hid ((Value.slice adt NT capt).ownBlock ≠ some a.R) := hide fun e => by
              have h1 := HY4.out.st.rm.told_ne HY4.out.st.rm.rb (by decide) (hTv ▸ e)
              exact h1 HY4.out.st.R
            have HXt : Hid ((Value.slice adt NT capt).ownBlock ≠ some X) := hide fun e => HY4.out.nw X 0 (.inr (.inr (.inl (hTv ▸ e)))) rfl
            have hRl4 : a.R < V4.heap.size := World.block_lt_of_cell? _ _ c7
            clear hTv hNTe
            refine wp_region_held_drew (S := fun V => V.heap[X]? = some (.cells #[.int .i64 dk, .int .i64 0, .int .i64 (2 + (r.sl : Int)), .int .i64 (r.li : Int), .int .i64 j1.nx.no, .int .i64 j1.nx.ba, .int .i64 dix, .int .i64 dco, .int .i64 0, .int .i64 drc, .int .u64 (drb : Int), .string dtx, .slice none 0 0] 98 (0, 0))) (by kernel_rfl) (HBx.out) (fun hHeld => ?_)
            refine wpAnyH_take (i := 0) (v := .pointer (some ⟨a.R, 0, none⟩)) rfl (by kernel_rfl) (by kernel_rfl) (by kernel_rfl) (fun _ _ _ h => h) (Or.inl ⟨by kernel_rfl, fun w1 hSw => by clear hHeld; obtain ⟨k0, k1, k2, k3, k4, k5, k6, k7, k8, k9, k10, k11, k12⟩ := ev_cells hSw; go_simp⟩) hHeld ?_
            try simp only [Act.put]
            try simp only [List.getElem_toArray]
            try simp only [List.getElem_cons_succ]
            try simp only [List.getElem_cons_zero]
            try simp only [List.setIfInBounds_toArray]
            try simp only [List.set_cons_succ, List.set_cons_zero]
            refine wpAnyH_take (i := 1) (v := .pointer (some ⟨a.R, 0, none⟩)) rfl (by kernel_rfl) (by kernel_rfl) (by kernel_rfl) (fun _ _ _ h => h) (Or.inl ⟨by kernel_rfl, fun w1 hSw => by clear hHeld; obtain ⟨k0, k1, k2, k3, k4, k5, k6, k7, k8, k9, k10, k11, k12⟩ := ev_cells hSw; go_simp⟩) hHeld ?_
            try simp only [Act.put]
            try simp only [List.getElem_toArray]
            try simp only [List.getElem_cons_succ]
            try simp only [List.getElem_cons_zero]
            try simp only [List.setIfInBounds_toArray]
            try simp only [List.set_cons_succ, List.set_cons_zero]
            refine wpAnyH_take (i := 2) (v := .pointer (some ⟨a.R, 0, none⟩)) rfl (by kernel_rfl) (by kernel_rfl) (by kernel_rfl) (fun _ _ _ h => h) (Or.inl ⟨by kernel_rfl, fun w1 hSw => by clear hHeld; obtain ⟨k0, k1, k2, k3, k4, k5, k6, k7, k8, k9, k10, k11, k12⟩ := ev_cells hSw; go_simp⟩) hHeld ?_
            try simp only [Act.put]
            try simp only [List.getElem_toArray]
            try simp only [List.getElem_cons_succ]
            try simp only [List.getElem_cons_zero]
            try simp only [List.setIfInBounds_toArray]
            try simp only [List.set_cons_succ, List.set_cons_zero]
            refine wpAnyH_take (i := 3) (v := .pointer (some ⟨a.R, 7, none⟩)) rfl (by kernel_rfl) (by kernel_rfl) (by kernel_rfl) (fun _ _ _ h => h) (Or.inl ⟨by kernel_rfl, fun w1 hSw => by clear hHeld; obtain ⟨k0, k1, k2, k3, k4, k5, k6, k7, k8, k9, k10, k11, k12⟩ := ev_cells hSw; go_simp⟩) hHeld ?_
            try simp only [Act.put]
            try simp only [List.getElem_toArray]
            try simp only [List.getElem_cons_succ]
            try simp only [List.getElem_cons_zero]
            try simp only [List.setIfInBounds_toArray]
            try simp only [List.set_cons_succ, List.set_cons_zero]
            refine wpAnyH_take (i := 5) (v := .agg #[.int .i64 dk, .int .i64 0, .int .i64 (2 + (r.sl : Int)), .int .i64 (r.li : Int), .int .i64 j1.nx.no, .int .i64 j1.nx.ba, .int .i64 dix, .int .i64 dco, .int .i64 0, .int .i64 drc, .int .u64 (drb : Int), .string dtx, .slice none 0 0]) rfl (by kernel_rfl) (by kernel_rfl) (by kernel_rfl) (fun _ _ _ h => h) (Or.inl ⟨by kernel_rfl, fun w1 hSw => by clear hHeld; obtain ⟨k0, k1, k2, k3, k4, k5, k6, k7, k8, k9, k10, k11, k12⟩ := ev_cells hSw; go_simp⟩) hHeld ?_
            try simp only [Act.put]
            try simp only [List.getElem_toArray]
            try simp only [List.getElem_cons_succ]
            try simp only [List.getElem_cons_zero]
            try simp only [List.setIfInBounds_toArray]
            try simp only [List.set_cons_succ, List.set_cons_zero]
            refine wpAnyH_ready (rs := [4, 6]) (by kernel_rfl) (by simp) ?_
            refine AllReadyH.cons rfl (fun K hK => ?_) (AllReadyH.cons rfl (fun K hK => ?_) AllReadyH.nil)
            · go_simp
              refine hK.out _ _ (hHeld) (fun hHeld => ?_)
              clear hK K
              try simp only [Act.put]
              try simp only [List.getElem_toArray]
              try simp only [List.getElem_cons_succ]
              try simp only [List.getElem_cons_zero]
              try simp only [List.setIfInBounds_toArray]
              try simp only [List.set_cons_succ, List.set_cons_zero]
              refine wpAnyH_ready (rs := [6]) (by kernel_rfl) (by simp) ?_
              refine AllReadyH.cons rfl (fun K hK => ?_) AllReadyH.nil
              go_simp
              have HY5 := hide ((HY4.out.up (below_dr V4 1)).up (CH.below_alloc V4.drew (.cells #[.int .i64 dk, .int .i64 0, .int .i64 (2 + (r.sl : Int)), .int .i64 (r.li : Int), .int .i64 j1.nx.no, .int .i64 j1.nx.ba, .int .i64 dix, .int .i64 dco, .int .i64 0, .int .i64 drc, .int .u64 (drb : Int), .string dtx, .slice none 0 0] 98)))
              have HE5 := hide (heap_alloc_new V4.drew (.cells #[.int .i64 dk, .int .i64 0, .int .i64 (2 + (r.sl : Int)), .int .i64 (r.li : Int), .int .i64 j1.nx.no, .int .i64 j1.nx.ba, .int .i64 dix, .int .i64 dco, .int .i64 0, .int .i64 drc, .int .u64 (drb : Int), .string dtx, .slice none 0 0] 98))
              have HS5 := hide HY5.out.bx
              refine hK.out _ _ (HS5.out) (fun hHeld => ?_)
              clear hK K
              try simp only [Act.put]
              try simp only [List.getElem_toArray]
              try simp only [List.getElem_cons_succ]
              try simp only [List.getElem_cons_zero]
              try simp only [List.setIfInBounds_toArray]
              try simp only [List.set_cons_succ, List.set_cons_zero]
              refine wpAnyH_ready (rs := [7]) (by kernel_rfl) (by simp) ?_
              refine AllReadyH.cons rfl (fun K hK => ?_) AllReadyH.nil
              have hown5 := HY5.out.st.rm.tl
              rw [HTv.out, HNt.out] at hown5
              refine step_append_lies _ rfl (.tmp 49) (.tmp 51) 51 rfl 0 98 iE _ 13 128 Tryz.underlying51 hiE zE0 zE1 zE2 rfl (by decide) (.slice adt NT capt) NT (ecs r3.T) rfl hown5 ⟨V4.drew.heap.size, 0, none⟩ 1 1 [.int .i64 dk, .int .i64 0, .int .i64 (2 + (r.sl : Int)), .int .i64 (r.li : Int), .int .i64 j1.nx.no, .int .i64 j1.nx.ba, .int .i64 dix, .int .i64 dco, .int .i64 0, .int .i64 drc, .int .u64 (drb : Int), .string dtx, .slice none 0 0] rfl rfl (World.news_of_block HE5.out) (by simp [Value.oneCell']) (by decide) (by unfold maxLen; omega) (by omega) (Nat.zero_le _) _ rfl ?_
              intro g6 cap6 V6 hown6 hgr6 hat6 hg6
              have HS6 := hide ((hgr6.block _ (lt_of_block HS5.out) (fun e => HXt.out e.symm)).trans HS5.out)
              have hR5 : (V4.drew.alloc (.cells #[.int .i64 dk, .int .i64 0, .int .i64 (2 + (r.sl : Int)), .int .i64 (r.li : Int), .int .i64 j1.nx.no, .int .i64 j1.nx.ba, .int .i64 dix, .int .i64 dco, .int .i64 0, .int .i64 drc, .int .u64 (drb : Int), .string dtx, .slice none 0 0] 98)).heap[a.R]? = some (.cells (rcs a3 r3) 84 (0, 0)) := by have h1 := HY5.out.st.rm.rb; rw [HY5.out.st.R] at h1; exact h1
              have hR6 : V6.heap[a.R]? = some (.cells (rcs a3 r3) 84 (0, 0)) := (hgr6.block a.R (lt_of_block hR5) (fun e => HRt.out e.symm)).trans hR5
              have hz6 : V6.frozen? ⟨a.R, 7, none⟩ = false := blk_z hR6 7
              have k76 : V6.cell? ⟨a.R, 7, none⟩ = some a3.tv := cell_of hR6 rfl
              have hRl6 : a.R < V6.heap.size := lt_of_block hR6
              have HSf : Hid (St w a r (V6.setCell ⟨a.R, 7, none⟩ (.slice (some ⟨g6, 0, none⟩) (NT + 1) cap6)) { a3 with tv := .slice (some ⟨g6, 0, none⟩) (NT + 1) cap6 } { r3 with T := r3.T ++ [⟨dk, 2 + (r.sl : Int), (r.li : Int), j.no, j.ba, dix, dco, drc, drb, dtx⟩] }) := hide (by
                    have h2 := St.tell (T := r3.T ++ [⟨dk, 2 + (r.sl : Int), (r.li : Int), j.no, j.ba, dix, dco, drc, drb, dtx⟩]) HY5.out.st.rm (w2 := V6) (v := .slice (some ⟨g6, 0, none⟩) (NT + 1) cap6) (by rw [List.length_append, HNt.out, ecs_app, ← HNb.out.1, ← HNb.out.2]; exact hown6) (by rw [HTv.out]; exact hgr6) (fun b hb => by rw [HTv.out]; cases hb; rcases hat6 with h | h; exact .inl h; exact .inr (Nat.le_of_eq h.symm))
                    have h3 : V6.setCell ⟨a.R, 7, none⟩ (.slice (some ⟨g6, 0, none⟩) (NT + 1) cap6) = V6.setCell ⟨a3.R, 7, none⟩ (.slice (some ⟨g6, 0, none⟩) (NT + 1) cap6) := by rw [HY5.out.st.R]
                    rw [h3]
                    exact HY5.out.st.trans h2)
              have HEf : Hid ((V6.setCell ⟨a.R, 7, none⟩ (.slice (some ⟨g6, 0, none⟩) (NT + 1) cap6)).ownsRow w1.heap.size 98 13 (.slice (some ⟨g, 0, none⟩) N capv) N (ecs es)) := hide (CH.own_keep (CH.own_keep HY5.out.ev (fun b hb => hgr6.block b (HY5.out.ev.lt b hb).2 (fun e => HTb.out b (by rw [HTv.out]; exact e.symm) hb))) (fun b hb => Below.heap_setCell _ ⟨a.R, 7, none⟩ _ b (fun e => by
                    obtain ⟨cs9, hc9⟩ := own_blk HY5.out.ev hb
                    exact CH.blk_ne hc9 HY5.out.st.rm.rb (by decide) (e.trans HY5.out.st.R.symm))))
              have HTf : Hid (∀ b, (Value.slice (some ⟨g6, 0, none⟩) (NT + 1) cap6).ownBlock = some b → (Value.slice (some ⟨g, 0, none⟩) N capv).ownBlock ≠ some b) := hide fun b hb e => by
                    cases hb
                    rcases hat6 with h | h
                    · exact HTb.out g6 (by rw [HTv.out]; exact h) e
                    · have h9 := (HY5.out.ev.lt _ e).2
                      rw [h] at h9
                      exact Nat.lt_irrefl _ h9
              clear hown5 hown6 hgr6 hat6
              refine hK.out _ _ (HS6.out) (fun hHeld => ?_)
              clear hK K
              try simp only [Act.put]
              try simp only [List.getElem_toArray]
              try simp only [List.getElem_cons_succ]
              try simp only [List.getElem_cons_zero]
              try simp only [List.setIfInBounds_toArray]
              try simp only [List.set_cons_succ, List.set_cons_zero]
              refine wpAnyH_take (i := 8) (v := .pointer (some ⟨a.R, 0, none⟩)) rfl (by kernel_rfl) (by kernel_rfl) (by kernel_rfl) (fun _ _ _ h => h) (Or.inl ⟨by kernel_rfl, fun w1 hSw => by clear hHeld; obtain ⟨k0, k1, k2, k3, k4, k5, k6, k7, k8, k9, k10, k11, k12⟩ := ev_cells hSw; go_simp⟩) hHeld ?_
              try simp only [Act.put]
              try simp only [List.getElem_toArray]
              try simp only [List.getElem_cons_succ]
              try simp only [List.getElem_cons_zero]
              try simp only [List.setIfInBounds_toArray]
              try simp only [List.set_cons_succ, List.set_cons_zero]
              refine wpAnyH_take (i := 9) (v := .pointer (some ⟨a.R, 7, none⟩)) rfl (by kernel_rfl) (by kernel_rfl) (by kernel_rfl) (fun _ _ _ h => h) (Or.inl ⟨by kernel_rfl, fun w1 hSw => by clear hHeld; obtain ⟨k0, k1, k2, k3, k4, k5, k6, k7, k8, k9, k10, k11, k12⟩ := ev_cells hSw; go_simp⟩) hHeld ?_
              try simp only [Act.put]
              try simp only [List.getElem_toArray]
              try simp only [List.getElem_cons_succ]
              try simp only [List.getElem_cons_zero]
              try simp only [List.setIfInBounds_toArray]
              try simp only [List.set_cons_succ, List.set_cons_zero]
              refine wpAnyH_ready (rs := [10]) (by kernel_rfl) (by simp) ?_
              refine AllReadyH.cons rfl (fun K hK => ?_) AllReadyH.nil
              have HS7 := hide ((Below.heap_setCell V6 ⟨a.R, 7, none⟩ (.slice (some ⟨g6, 0, none⟩) (NT + 1) cap6) X (fun e => hRX e.symm)).trans HS6.out)
              clear hHeld
              go_simp
              refine hK.out _ _ (HS7.out) (fun hHeld => ?_)
              clear hK K
              try simp only [Act.put]
              try simp only [List.getElem_toArray]
              try simp only [List.getElem_cons_succ]
              try simp only [List.getElem_cons_zero]
              try simp only [List.setIfInBounds_toArray]
              try simp only [List.set_cons_succ, List.set_cons_zero]
              refine wpAnyH_done (by kernel_rfl) ?_ _
              go_wp2_with fail
              go_roundw
              case rel => exact ⟨i + 1, { a3 with tv := .slice (some ⟨g6, 0, none⟩) (NT + 1) cap6 }, by go_num, by omega, by rw [HR3.out]; exact HSf, HEf, HTf⟩
              case measure => simp only [intOf]; omega
            · go_simp
              have HY5 := hide ((HY4.out.up (below_dr V4 1)).up (CH.below_alloc V4.drew (.cells #[.int .i64 dk, .int .i64 0, .int .i64 (2 + (r.sl : Int)), .int .i64 (r.li : Int), .int .i64 j1.nx.no, .int .i64 j1.nx.ba, .int .i64 dix, .int .i64 dco, .int .i64 0, .int .i64 drc, .int .u64 (drb : Int), .string dtx, .slice none 0 0] 98)))
              have HE5 := hide (heap_alloc_new V4.drew (.cells #[.int .i64 dk, .int .i64 0, .int .i64 (2 + (r.sl : Int)), .int .i64 (r.li : Int), .int .i64 j1.nx.no, .int .i64 j1.nx.ba, .int .i64 dix, .int .i64 dco, .int .i64 0, .int .i64 drc, .int .u64 (drb : Int), .string dtx, .slice none 0 0] 98))
              have HS5 := hide HY5.out.bx
              refine hK.out _ _ (HS5.out) (fun hHeld => ?_)
              clear hK K
              try simp only [Act.put]
              try simp only [List.getElem_toArray]
              try simp only [List.getElem_cons_succ]
              try simp only [List.getElem_cons_zero]
              try simp only [List.setIfInBounds_toArray]
              try simp only [List.set_cons_succ, List.set_cons_zero]
              refine wpAnyH_ready (rs := [4]) (by kernel_rfl) (by simp) ?_
              refine AllReadyH.cons rfl (fun K hK => ?_) AllReadyH.nil
              go_simp
              refine hK.out _ _ (hHeld) (fun hHeld => ?_)
              clear hK K
              try simp only [Act.put]
              try simp only [List.getElem_toArray]
              try simp only [List.getElem_cons_succ]
              try simp only [List.getElem_cons_zero]
              try simp only [List.setIfInBounds_toArray]
              try simp only [List.set_cons_succ, List.set_cons_zero]
              refine wpAnyH_ready (rs := [7]) (by kernel_rfl) (by simp) ?_
              refine AllReadyH.cons rfl (fun K hK => ?_) AllReadyH.nil
              have hown5 := HY5.out.st.rm.tl
              rw [HTv.out, HNt.out] at hown5
              refine step_append_lies _ rfl (.tmp 49) (.tmp 51) 51 rfl 0 98 iE _ 13 128 Tryz.underlying51 hiE zE0 zE1 zE2 rfl (by decide) (.slice adt NT capt) NT (ecs r3.T) rfl hown5 ⟨V4.drew.heap.size, 0, none⟩ 1 1 [.int .i64 dk, .int .i64 0, .int .i64 (2 + (r.sl : Int)), .int .i64 (r.li : Int), .int .i64 j1.nx.no, .int .i64 j1.nx.ba, .int .i64 dix, .int .i64 dco, .int .i64 0, .int .i64 drc, .int .u64 (drb : Int), .string dtx, .slice none 0 0] rfl rfl (World.news_of_block HE5.out) (by simp [Value.oneCell']) (by decide) (by unfold maxLen; omega) (by omega) (Nat.zero_le _) _ rfl ?_
              intro g6 cap6 V6 hown6 hgr6 hat6 hg6
              have HS6 := hide ((hgr6.block _ (lt_of_block HS5.out) (fun e => HXt.out e.symm)).trans HS5.out)
              have hR5 : (V4.drew.alloc (.cells #[.int .i64 dk, .int .i64 0, .int .i64 (2 + (r.sl : Int)), .int .i64 (r.li : Int), .int .i64 j1.nx.no, .int .i64 j1.nx.ba, .int .i64 dix, .int .i64 dco, .int .i64 0, .int .i64 drc, .int .u64 (drb : Int), .string dtx, .slice none 0 0] 98)).heap[a.R]? = some (.cells (rcs a3 r3) 84 (0, 0)) := by have h1 := HY5.out.st.rm.rb; rw [HY5.out.st.R] at h1; exact h1
              have hR6 : V6.heap[a.R]? = some (.cells (rcs a3 r3) 84 (0, 0)) := (hgr6.block a.R (lt_of_block hR5) (fun e => HRt.out e.symm)).trans hR5
              have hz6 : V6.frozen? ⟨a.R, 7, none⟩ = false := blk_z hR6 7
              have k76 : V6.cell? ⟨a.R, 7, none⟩ = some a3.tv := cell_of hR6 rfl
              have hRl6 : a.R < V6.heap.size := lt_of_block hR6
              have HSf : Hid (St w a r (V6.setCell ⟨a.R, 7, none⟩ (.slice (some ⟨g6, 0, none⟩) (NT + 1) cap6)) { a3 with tv := .slice (some ⟨g6, 0, none⟩) (NT + 1) cap6 } { r3 with T := r3.T ++ [⟨dk, 2 + (r.sl : Int), (r.li : Int), j.no, j.ba, dix, dco, drc, drb, dtx⟩] }) := hide (by
                    have h2 := St.tell (T := r3.T ++ [⟨dk, 2 + (r.sl : Int), (r.li : Int), j.no, j.ba, dix, dco, drc, drb, dtx⟩]) HY5.out.st.rm (w2 := V6) (v := .slice (some ⟨g6, 0, none⟩) (NT + 1) cap6) (by rw [List.length_append, HNt.out, ecs_app, ← HNb.out.1, ← HNb.out.2]; exact hown6) (by rw [HTv.out]; exact hgr6) (fun b hb => by rw [HTv.out]; cases hb; rcases hat6 with h | h; exact .inl h; exact .inr (Nat.le_of_eq h.symm))
                    have h3 : V6.setCell ⟨a.R, 7, none⟩ (.slice (some ⟨g6, 0, none⟩) (NT + 1) cap6) = V6.setCell ⟨a3.R, 7, none⟩ (.slice (some ⟨g6, 0, none⟩) (NT + 1) cap6) := by rw [HY5.out.st.R]
                    rw [h3]
                    exact HY5.out.st.trans h2)
              have HEf : Hid ((V6.setCell ⟨a.R, 7, none⟩ (.slice (some ⟨g6, 0, none⟩) (NT + 1) cap6)).ownsRow w1.heap.size 98 13 (.slice (some ⟨g, 0, none⟩) N capv) N (ecs es)) := hide (CH.own_keep (CH.own_keep HY5.out.ev (fun b hb => hgr6.block b (HY5.out.ev.lt b hb).2 (fun e => HTb.out b (by rw [HTv.out]; exact e.symm) hb))) (fun b hb => Below.heap_setCell _ ⟨a.R, 7, none⟩ _ b (fun e => by
                    obtain ⟨cs9, hc9⟩ := own_blk HY5.out.ev hb
                    exact CH.blk_ne hc9 HY5.out.st.rm.rb (by decide) (e.trans HY5.out.st.R.symm))))
              have HTf : Hid (∀ b, (Value.slice (some ⟨g6, 0, none⟩) (NT + 1) cap6).ownBlock = some b → (Value.slice (some ⟨g, 0, none⟩) N capv).ownBlock ≠ some b) := hide fun b hb e => by
                    cases hb
                    rcases hat6 with h | h
                    · exact HTb.out g6 (by rw [HTv.out]; exact h) e
                    · have h9 := (HY5.out.ev.lt _ e).2
                      rw [h] at h9
                      exact Nat.lt_irrefl _ h9
              clear hown5 hown6 hgr6 hat6
              refine hK.out _ _ (HS6.out) (fun hHeld => ?_)
              clear hK K
              try simp only [Act.put]
              try simp only [List.getElem_toArray]
              try simp only [List.getElem_cons_succ]
              try simp only [List.getElem_cons_zero]
              try simp only [List.setIfInBounds_toArray]
              try simp only [List.set_cons_succ, List.set_cons_zero]
              refine wpAnyH_take (i := 8) (v := .pointer (some ⟨a.R, 0, none⟩)) rfl (by kernel_rfl) (by kernel_rfl) (by kernel_rfl) (fun _ _ _ h => h) (Or.inl ⟨by kernel_rfl, fun w1 hSw => by clear hHeld; obtain ⟨k0, k1, k2, k3, k4, k5, k6, k7, k8, k9, k10, k11, k12⟩ := ev_cells hSw; go_simp⟩) hHeld ?_
              try simp only [Act.put]
              try simp only [List.getElem_toArray]
              try simp only [List.getElem_cons_succ]
              try simp only [List.getElem_cons_zero]
              try simp only [List.setIfInBounds_toArray]
              try simp only [List.set_cons_succ, List.set_cons_zero]
              refine wpAnyH_take (i := 9) (v := .pointer (some ⟨a.R, 7, none⟩)) rfl (by kernel_rfl) (by kernel_rfl) (by kernel_rfl) (fun _ _ _ h => h) (Or.inl ⟨by kernel_rfl, fun w1 hSw => by clear hHeld; obtain ⟨k0, k1, k2, k3, k4, k5, k6, k7, k8, k9, k10, k11, k12⟩ := ev_cells hSw; go_simp⟩) hHeld ?_
              try simp only [Act.put]
              try simp only [List.getElem_toArray]
              try simp only [List.getElem_cons_succ]
              try simp only [List.getElem_cons_zero]
              try simp only [List.setIfInBounds_toArray]
              try simp only [List.set_cons_succ, List.set_cons_zero]
              refine wpAnyH_ready (rs := [10]) (by kernel_rfl) (by simp) ?_
              refine AllReadyH.cons rfl (fun K hK => ?_) AllReadyH.nil
              have HS7 := hide ((Below.heap_setCell V6 ⟨a.R, 7, none⟩ (.slice (some ⟨g6, 0, none⟩) (NT + 1) cap6) X (fun e => hRX e.symm)).trans HS6.out)
              clear hHeld
              go_simp
              refine hK.out _ _ (HS7.out) (fun hHeld => ?_)
              clear hK K
              try simp only [Act.put]
              try simp only [List.getElem_toArray]
              try simp only [List.getElem_cons_succ]
              try simp only [List.getElem_cons_zero]
              try simp only [List.setIfInBounds_toArray]
              try simp only [List.set_cons_succ, List.set_cons_zero]
              refine wpAnyH_done (by kernel_rfl) ?_ _
              go_wp2_with fail
              go_roundw
              case rel => exact ⟨i + 1, { a3 with tv := .slice (some ⟨g6, 0, none⟩) (NT + 1) cap6 }, by go_num, by omega, by rw [HR3.out]; exact HSf, HEf, HTf⟩
              case measure => simp only [intOf]; omega
          · obtain rfl : i = N := by omega
            have hii : ¬ ((i : Int) < (i : Int)) := by omega
            have hTk : es.take i = es := by rw [← HNn.out]; exact List.take_length
            rw [hTk] at HS3
            have HTl2 : Hid ((T1 ++ es.map wh).length ≤ r.T.length + 2 * (k + 1)) := hide (by have h1 := HNn.out; simp only [List.length_append, List.length_map]; omega)
            clear hTk hTl
            go_wp2_with fail
            go_roundw
            case rel => exact ⟨k + 1, a3, j1.nx, T1 ++ es.map wh, by go_num, by omega, HS3, hide (by have h1 := HR.out; rw [show q - k - 1 + 1 = q - k by omega, HRe.out, HEs.out] at h1; rw [show q - (k + 1) = q - k - 1 by omega]; exact h1.symm), HOk2, HNb, HTl2⟩
            case measure => simp only [intOf]; omega
    · obtain rfl : k = q := by omega
      have hii : ¬ ((k : Int) < (k : Int)) := by omega
      have hRe := HRe.out
      rw [Nat.sub_self] at hRe
      have HE9 : Hid (reck wh r.qu j r.T = (j1, T1)) := hide (by rw [HQ.out, ← hRe]; rfl)
      clear hRe
      go_wp2_with fail
      go_end0
      refine ⟨rfl, a1, ?_⟩
      rw [HWe.out, HE9.out]
      exact HSt.out
end Go.Proofs.YtkfnedhllfdghaaGreatDoor.RN
end

section
namespace Go.Proofs.YtkfnedhllfdghaaGreatDoor.RN
open Go.RowKit Go.Shelf
set_option maxRecDepth 20000

/-- a message, as session's texts have it -/
def smOf (m : W.Wr.Ms) : SE.Sm := ⟨m.k, m.se, m.nu, m.jo, m.ba, m.ix, m.co, m.rc, m.rb, m.tx, m.pr⟩
theorem smOf_c (m : W.Wr.Ms) : SE.smC (smOf m) = W.msgC m := rfl
/-- the caller behind what is wanted next -/
def Rn.asked (r : Rn) : SE.Cl := if (r.c.m.k != 0) = true then r.c else if (r.c.se == 0) = true then r.c.hello.c else match r.j with
  | none => (r.c.ask (SE.zS 2)).c
  | some j => (r.c.ask (smOf j.rq)).c
section
variable {w : World} {a : RA} {r : Rn}
theorem Rm.self (h : Rm w a r) : St w a r w a { r with c := r.c } := St.refl h
set_option maxHeartbeats 4000000 in
theorem rask_any (h : Rm w a r) (hk : r.ok) :
    Calls Tryz.prog 46 #[.pointer (some ⟨a.R, 0, none⟩)] w fun e w' => e = .returned (.tuple #[]) ∧ St w a r w' a { r with c := r.asked } := by
  have c5 := h.c5
  have c6 := h.c6
  have HB := hide (SE.busy_any h.cb)
  have HSe := hide (SE.sess_any h.cb)
  have HH := hide h
  cases tb : (r.c.m.k != 0) with
  | true =>
    rw [tb] at HB
    have e1 : r.asked = r.c := by unfold Rn.asked; rw [if_pos tb]
    rw [e1]
    clear tb e1 h c6
    go_enter Tryz.func46, Tryz.ntmps46
    go_wp2_with fail
    refine HB.out.mono ?_
    rintro e w1 ⟨rfl, rfl⟩
    go_wp2_with fail
    go_end0
    exact ⟨rfl, St.refl HH.out⟩
  | false =>
    rw [tb] at HB
    cases ts : (r.c.se == 0) with
    | true =>
      have e1 : r.asked = r.c.hello.c := by unfold Rn.asked; rw [if_neg (by rw [tb]; decide), if_pos ts]
      rw [e1]
      have HHe := hide (SE.hello_any h.cb)
      clear tb e1 h c6
      go_enter Tryz.func46, Tryz.ntmps46
      go_wp2_with fail
      refine HB.out.mono ?_
      rintro e w1 ⟨rfl, rfl⟩
      go_wp2_with fail
      refine HSe.out.mono ?_
      rintro e w1 ⟨rfl, rfl⟩
      go_wp2_with fail
      refine HHe.out.mono ?_
      rintro e w2 ⟨rfl, hc, ho⟩
      have HS := hide (St.call HH.out ho hc)
      clear hc ho
      go_wp2_with fail
      go_end0
      exact ⟨rfl, HS.out⟩
    | false =>
      cases hj : r.j with
      | none =>
        have e1 : r.asked = (r.c.ask (SE.zS 2)).c := by unfold Rn.asked; rw [if_neg (by rw [tb]; decide), if_neg (by rw [ts]; decide), hj]
        rw [e1]
        have HA := hide (SE.ask_any hk.c h.cb (SE.zS 2))
        rw [hj] at c6
        replace c6 : w.cell? ⟨a.R, 6, none⟩ = some (.pointer none) := c6
        have HJe := hide hj
        clear tb e1 h hj hk
        go_enter Tryz.func46, Tryz.ntmps46
        go_wp2_with fail
        refine HB.out.mono ?_
        rintro e w1 ⟨rfl, rfl⟩
        go_wp2_with fail
        refine HSe.out.mono ?_
        rintro e w1 ⟨rfl, rfl⟩
        go_wp2_with fail
        refine HA.out.mono ?_
        rintro e w2 ⟨rfl, hc, ho⟩
        have HS := hide (St.call HH.out ho hc)
        clear hc ho
        go_wp2_with fail
        go_end0
        exact ⟨rfl, by have h9 := HS.out; rw [HJe.out] at h9; exact h9⟩
      | some j =>
        have e1 : r.asked = (r.c.ask (smOf j.rq)).c := by unfold Rn.asked; rw [if_neg (by rw [tb]; decide), if_neg (by rw [ts]; decide), hj]
        rw [e1]
        have HQ := hide (fun (V : World) (hb : Below w.heap.size w V) => request_any ((h.below hb).j j hj) (hk.j j hj))
        have HA := hide (fun (V : World) (hb : Below w.heap.size w V) => SE.ask_any hk.c (h.below hb).cb (smOf j.rq))
        rw [smOf_c] at HA
        rw [hj] at c6
        replace c6 : w.cell? ⟨a.R, 6, none⟩ = some (.pointer (some ⟨a.ja.J, 0, none⟩)) := c6
        have HC0 : Hid (∀ V : World, Below w.heap.size w V → V.cell? ⟨a.R, 5, none⟩ = some (.pointer (some ⟨a.C, 0, none⟩)) ∧ V.cell? ⟨a.R, 6, none⟩ = some (.pointer (some ⟨a.ja.J, 0, none⟩))) := hide fun V hb => ⟨(hb.cell (p := ⟨a.R, 5, none⟩) (lt_of_block h.rb)).trans c5, (hb.cell (p := ⟨a.R, 6, none⟩) (lt_of_block h.rb)).trans c6⟩
        have hCR : a.R ≠ a.C := CH.blk_ne h.rb h.cb (by decide)
        have HJe := hide hj
        clear tb e1 h hj hk
        generalize W.msgC j.rq = RQ at *
        go_enter Tryz.func46, Tryz.ntmps46
        go_wp2_with fail
        refine HB.out.mono ?_
        rintro e w1 ⟨rfl, rfl⟩
        go_wp2_with fail
        refine HSe.out.mono ?_
        rintro e w1 ⟨rfl, rfl⟩
        go_upto_region 0 with fail
        have HB0 : Hid (Below w1.heap.size w1 w1.drew) := hide ⟨rfl, rfl, rfl, Nat.le_refl _, fun _ _ => rfl⟩
        refine wp_region_held_drew (S := fun V => V.cell? ⟨a.R, 5, none⟩ = some (.pointer (some ⟨a.C, 0, none⟩)) ∧ V.cell? ⟨a.R, 6, none⟩ = some (.pointer (some ⟨a.ja.J, 0, none⟩))) (by kernel_rfl) (HC0.out _ HB0.out) (fun hHeld => ?_)
        refine wpAnyH_take (i := 0) (v := .pointer (some ⟨a.R, 0, none⟩)) rfl (by kernel_rfl) (by kernel_rfl) (by kernel_rfl) (fun _ _ _ h => h) (Or.inl ⟨by kernel_rfl, fun w1 hSw => by clear hHeld; have q5 := hSw.1; have q6 := hSw.2; go_simp⟩) hHeld ?_
        try simp only [Act.put]
        try simp only [List.getElem_toArray]
        try simp only [List.getElem_cons_succ]
        try simp only [List.getElem_cons_zero]
        try simp only [List.setIfInBounds_toArray]
        try simp only [List.set_cons_succ, List.set_cons_zero]
        refine wpAnyH_take (i := 1) (v := .pointer (some ⟨a.R, 0, none⟩)) rfl (by kernel_rfl) (by kernel_rfl) (by kernel_rfl) (fun _ _ _ h => h) (Or.inl ⟨by kernel_rfl, fun w1 hSw => by clear hHeld; have q5 := hSw.1; have q6 := hSw.2; go_simp⟩) hHeld ?_
        try simp only [Act.put]
        try simp only [List.getElem_toArray]
        try simp only [List.getElem_cons_succ]
        try simp only [List.getElem_cons_zero]
        try simp only [List.setIfInBounds_toArray]
        try simp only [List.set_cons_succ, List.set_cons_zero]
        refine wpAnyH_take (i := 2) (v := .pointer (some ⟨a.R, 5, none⟩)) rfl (by kernel_rfl) (by kernel_rfl) (by kernel_rfl) (fun _ _ _ h => h) (Or.inl ⟨by kernel_rfl, fun w1 hSw => by clear hHeld; have q5 := hSw.1; have q6 := hSw.2; go_simp⟩) hHeld ?_
        try simp only [Act.put]
        try simp only [List.getElem_toArray]
        try simp only [List.getElem_cons_succ]
        try simp only [List.getElem_cons_zero]
        try simp only [List.setIfInBounds_toArray]
        try simp only [List.set_cons_succ, List.set_cons_zero]
        refine wpAnyH_take (i := 3) (v := .pointer (some ⟨a.C, 0, none⟩)) rfl (by kernel_rfl) (by kernel_rfl) (by kernel_rfl) (fun _ _ _ h => h) (Or.inl ⟨by kernel_rfl, fun w1 hSw => by clear hHeld; have q5 := hSw.1; have q6 := hSw.2; go_simp⟩) hHeld ?_
        try simp only [Act.put]
        try simp only [List.getElem_toArray]
        try simp only [List.getElem_cons_succ]
        try simp only [List.getElem_cons_zero]
        try simp only [List.setIfInBounds_toArray]
        try simp only [List.set_cons_succ, List.set_cons_zero]
        refine wpAnyH_take (i := 4) (v := .pointer (some ⟨a.R, 0, none⟩)) rfl (by kernel_rfl) (by kernel_rfl) (by kernel_rfl) (fun _ _ _ h => h) (Or.inl ⟨by kernel_rfl, fun w1 hSw => by clear hHeld; have q5 := hSw.1; have q6 := hSw.2; go_simp⟩) hHeld ?_
        try simp only [Act.put]
        try simp only [List.getElem_toArray]
        try simp only [List.getElem_cons_succ]
        try simp only [List.getElem_cons_zero]
        try simp only [List.setIfInBounds_toArray]
        try simp only [List.set_cons_succ, List.set_cons_zero]
        refine wpAnyH_take (i := 5) (v := .pointer (some ⟨a.R, 0, none⟩)) rfl (by kernel_rfl) (by kernel_rfl) (by kernel_rfl) (fun _ _ _ h => h) (Or.inl ⟨by kernel_rfl, fun w1 hSw => by clear hHeld; have q5 := hSw.1; have q6 := hSw.2; go_simp⟩) hHeld ?_
        try simp only [Act.put]
        try simp only [List.getElem_toArray]
        try simp only [List.getElem_cons_succ]
        try simp only [List.getElem_cons_zero]
        try simp only [List.setIfInBounds_toArray]
        try simp only [List.set_cons_succ, List.set_cons_zero]
        refine wpAnyH_take (i := 6) (v := .pointer (some ⟨a.R, 6, none⟩)) rfl (by kernel_rfl) (by kernel_rfl) (by kernel_rfl) (fun _ _ _ h => h) (Or.inl ⟨by kernel_rfl, fun w1 hSw => by clear hHeld; have q5 := hSw.1; have q6 := hSw.2; go_simp⟩) hHeld ?_
        try simp only [Act.put]
        try simp only [List.getElem_toArray]
        try simp only [List.getElem_cons_succ]
        try simp only [List.getElem_cons_zero]
        try simp only [List.setIfInBounds_toArray]
        try simp only [List.set_cons_succ, List.set_cons_zero]
        refine wpAnyH_take (i := 7) (v := .pointer (some ⟨a.ja.J, 0, none⟩)) rfl (by kernel_rfl) (by kernel_rfl) (by kernel_rfl) (fun _ _ _ h => h) (Or.inl ⟨by kernel_rfl, fun w1 hSw => by clear hHeld; have q5 := hSw.1; have q6 := hSw.2; go_simp⟩) hHeld ?_
        try simp only [Act.put]
        try simp only [List.getElem_toArray]
        try simp only [List.getElem_cons_succ]
        try simp only [List.getElem_cons_zero]
        try simp only [List.setIfInBounds_toArray]
        try simp only [List.set_cons_succ, List.set_cons_zero]
        refine wpAnyH_ready (rs := [8]) (by kernel_rfl) (by simp) ?_
        refine AllReadyH.cons rfl (fun K hK => ?_) AllReadyH.nil
        go_simp
        refine (HQ.out _ HB0.out).mono ?_
        rintro e V1 ⟨rfl, hb⟩
        have HB1 := hide (HB0.out.trans (hb.mono HB0.out.size))
        have HS1 := hide (HC0.out V1 HB1.out)
        clear hb
        refine hK.out _ _ (HS1.out) (fun hHeld => ?_)
        clear hK K
        try simp only [Act.put]
        try simp only [List.getElem_toArray]
        try simp only [List.getElem_cons_succ]
        try simp only [List.getElem_cons_zero]
        try simp only [List.setIfInBounds_toArray]
        try simp only [List.set_cons_succ, List.set_cons_zero]
        refine wpAnyH_ready (rs := [9]) (by kernel_rfl) (by simp) ?_
        refine AllReadyH.cons rfl (fun K hK => ?_) AllReadyH.nil
        go_simp
        refine (HA.out _ HB1.out).mono ?_
        rintro e V2 ⟨rfl, hc, ho⟩
        have HS2 := hide ((St.call (HH.out.below HB1.out) ho hc).pre HB1.out)
        have HC2 : Hid (_ ∧ _) := hide ⟨HS2.out.rm.c5, (World.cell?_of_block (a := ⟨a.R, 6, none⟩) (ho.block a.R (World.block_lt_of_cell? _ _ HS1.out.2) hCR)).trans HS1.out.2⟩
        clear hc ho
        refine hK.out _ _ (HC2.out) (fun hHeld => ?_)
        clear hK K
        try simp only [Act.put]
        try simp only [List.getElem_toArray]
        try simp only [List.getElem_cons_succ]
        try simp only [List.getElem_cons_zero]
        try simp only [List.setIfInBounds_toArray]
        try simp only [List.set_cons_succ, List.set_cons_zero]
        refine wpAnyH_done (by kernel_rfl) ?_ _
        go_wp2_with fail
        go_end0
        exact ⟨rfl, by have h9 := HS2.out; rw [HJe.out] at h9; exact h9⟩
/-- behind a tick -/
def Rn.tick (r : Rn) : Rn := { r with c := r.c.tick, j := r.j.map fun j => { j with lg := j.lg.tick, ar := j.ar.tick } }
set_option maxHeartbeats 4000000 in
theorem rtick_any (h : Rm w a r) (hk : r.ok) :
    Calls Tryz.prog 21 #[.pointer (some ⟨a.R, 0, none⟩)] w fun e w' => e = .returned (.tuple #[]) ∧ St w a r w' a r.tick := by
  have c5 := h.c5
  have HT := hide (SE.tick_any hk.c h.cb)
  have HH := hide h
  cases hj : r.j with
  | none =>
    have e1 : r.tick = { r with c := r.c.tick } := by unfold Rn.tick; rw [hj]; cases r; simp_all
    rw [e1]
    clear e1 h hk
    go_enter Tryz.func21, Tryz.ntmps21
    go_wp2_with fail
    refine HT.out.mono ?_
    rintro e w1 ⟨rfl, hc, ho⟩
    have HS := hide (St.call HH.out ho hc)
    have c6 := HS.out.rm.c6
    replace c6 : w1.cell? ⟨a.R, 6, none⟩ = some (jp a.ja r.j) := c6
    rw [hj] at c6
    replace c6 : w1.cell? ⟨a.R, 6, none⟩ = some (.pointer none) := c6
    clear hc ho hj
    go_wp2_with fail
    go_end0
    exact ⟨rfl, HS.out⟩
  | some j =>
    have e1 : r.tick = { r with c := r.c.tick, j := some { j with lg := j.lg.tick, ar := j.ar.tick } } := by unfold Rn.tick; rw [hj]; rfl
    rw [e1]
    have hjk := hk.j j hj
    have hkl := hjk.lg
    have hka := hjk.ar
    clear e1 h hk hjk
    go_enter Tryz.func21, Tryz.ntmps21
    go_wp2_with fail
    refine HT.out.mono ?_
    rintro e w1 ⟨rfl, hc, ho⟩
    have HS := hide (St.call HH.out ho hc)
    have c6 := HS.out.rm.c6
    replace c6 : w1.cell? ⟨a.R, 6, none⟩ = some (jp a.ja r.j) := c6
    rw [hj] at c6
    replace c6 : w1.cell? ⟨a.R, 6, none⟩ = some (.pointer (some ⟨a.ja.J, 0, none⟩)) := c6
    have hjm := HS.out.rm.j j hj
    have c3 := hjm.c3_
    have HT1 := hide (jtick1 hjm hkl)
    clear hc ho hjm
    go_wp2_with fail
    refine HT1.out.mono ?_
    rintro e w2 ⟨rfl, hjs⟩
    have HS2 := hide (HS.out.trans (St.job HS.out.rm hj hjs))
    have d6 := HS2.out.rm.c6
    replace d6 : w2.cell? ⟨a.R, 6, none⟩ = some (.pointer (some ⟨a.ja.J, 0, none⟩)) := d6
    have hjm := HS2.out.rm.j _ rfl
    have d4 := hjm.c4_
    have HT2 := hide (jtick2 hjm hka)
    clear hjs hjm c6 c3
    go_wp2_with fail
    refine HT2.out.mono ?_
    rintro e w3 ⟨rfl, hjs⟩
    have HS3 := hide (HS2.out.trans (St.job HS2.out.rm rfl hjs))
    clear hjs
    go_wp2_with fail
    go_end0
    exact ⟨rfl, HS3.out⟩
set_option maxHeartbeats 4000000 in
theorem rtold_any (h : Rm w a r) :
    Calls Tryz.prog 16 #[.pointer (some ⟨a.R, 0, none⟩)] w fun e w' => e = .returned a.tv ∧ St w a r w' { a with tv := .slice none 0 0 } { r with T := [] } ∧ w'.ownsRow 0 98 13 a.tv r.T.length (ecs r.T) := by
  have c7 := h.c7
  have z7 := h.z 7
  have hlt := lt_of_block h.rb
  have HS := hide (St.hand h)
  have HO : Hid ((w.setCell ⟨a.R, 7, none⟩ (.slice none 0 0)).ownsRow 0 98 13 a.tv r.T.length (ecs r.T)) := hide (CH.own_keep h.tl (fun g hg => Below.heap_setCell _ ⟨a.R, 7, none⟩ _ g (fun e => h.told_ne h.rb (by decide) hg e.symm)))
  obtain ⟨ad, cap, hv⟩ := CH.own_slice h.tl
  rw [hv] at c7 HO ⊢
  generalize r.T.length = NT at *
  clear h hv
  go_enter Tryz.func16, Tryz.ntmps16
  go_wp2_with fail
  go_ret
  exact ⟨rfl, HS.out, HO.out⟩
end
end Go.Proofs.YtkfnedhllfdghaaGreatDoor.RN
end
