import Derived.Test.YtkfnedhllfdghaaGreatDoorMgBI
import Derived.Great.Walk
import Derived.Laws.CopyOwn

section
namespace Go.Proofs.YtkfnedhllfdghaaGreatDoor.RN
open Go.RowKit Go.Shelf
set_option maxRecDepth 20000

/-- how a runner stands, as it is seen -/
def Rn.look (r : Rn) : Array Value := match r.j with
  | none => #[.int .i64 (r.sl : Int), .int .i64 (r.li : Int), .int .i64 r.c.se, .int .i64 r.c.m.nu, .bool (r.c.m.k != 0), .int .i64 r.c.ti, .int .i64 0, .int .i64 0, .int .i64 0, .bool false, .int .i64 0, .int .u64 0, .int .i64 0, .int .i64 0, .int .i64 0, .int .i64 0, .int .i64 0, .int .i64 0, .int .i64 0, .int .i64 0]
  | some j => #[.int .i64 (r.sl : Int), .int .i64 (r.li : Int), .int .i64 r.c.se, .int .i64 r.c.m.nu, .bool (r.c.m.k != 0), .int .i64 r.c.ti, .int .i64 j.no, .int .i64 j.ba, .int .i64 (j.m.dn : Int), .bool j.m.ov, .int .i64 (Im.resC j.m : Int), .int .u64 (Im.resB j.m : Int), .int .i64 (j.lg.len : Int), .int .i64 (j.lg.go : Int), .int .i64 (j.lg.said : Int), .int .i64 (j.lg.ti : Int), .int .i64 (j.ar.len : Int), .int .i64 (j.ar.go : Int), .int .i64 (j.ar.said : Int), .int .i64 (j.ar.ti : Int)]
theorem look_size (r : Rn) : r.look.size = 20 := by
  unfold Rn.look
  cases r.j <;> rfl
theorem look_one (r : Rn) : r.look.all (·.oneCell') = true := by
  unfold Rn.look
  cases r.j <;> simp [Value.oneCell']
theorem step_store_row {P : Program} {w : World} {ops : Array Oper} {o : Oper} {a : Act} {K : Act → World → Prop} {Q : Exit → Act → World → Prop} {E : Prop} (hgd : o.guard = none) (ty : TypeId) (x y : Operand) (ho : o.op = .store ty x y)
    (g : Nat) (cells : Array Value) (hx : a.eval x = .pointer (some ⟨g, 0, none⟩)) (hy : a.eval y = .agg cells)
    (t : TypeId) (old : Array Value) (hg : w.heap[g]? = some (.cells old t (0, 0))) (hi : (P.info? ty).map (·.size) = some cells.size)
    (hold : old.size = cells.size) (h1 : cells.all (·.oneCell') = true) (h : K (a.put o.dst undef) (w.setRow g cells)) : if Region.wanted o (yielded ops a.tmps) = true then Oper.wp P o a w K Q else E := by
  have hw : Region.wanted o (yielded ops a.tmps) = true := by simp [Region.wanted, hgd]
  rw [if_pos hw]
  exact wp_store_row ty x y ho g cells hx hy t old hg hi hold h1 h
structure Ky (w : World) (a : RA) (r : Rn) (cs : Array Value) (V : World) : Prop where
  rz : V.heap[w.heap.size]? = some (.cells #[.int .i64 0, .int .i64 0, .int .i64 0, .int .i64 0, .bool false, .int .i64 0, .int .i64 0, .int .i64 0, .int .i64 0, .bool false, .int .i64 0, .int .u64 0, .int .i64 0, .int .i64 0, .int .i64 0, .int .i64 0, .int .i64 0, .int .i64 0, .int .i64 0, .int .i64 0] 48 (0, 0))
  bx : V.heap[w.heap.size + 1]? = some (.cells cs 48 (0, 0))
  bl : Below w.heap.size w V
theorem results_l1 {fn : Func} {p : Tmp} (h : fn.results = #[.cell p 48]) (tmps : Array Value) (w : World) (g : Nat) (cs : Array Value) (hp : tmps.getD p undef = .pointer (some ⟨g, 0, none⟩)) (hg : w.heap[g]? = some (.cells cs 48 (0, 0))) (hc : cs.size = 20) :
    (results fn tmps).run Tryz.prog w = .ok (.agg cs) w := by
  have he := run_loadVar_row (P := Tryz.prog) w g 48 48 cs (0, 0) _ hg Tryz.underlying48 rfl (by rw [hc]; kernel_rfl)
  rw [results_c1 h, hp]
  simp [asAddr, he]
structure Kc (a : RA) (r : Rn) (V : World) : Prop where
  c0 : V.cell? ⟨a.R, 0, none⟩ = some (.int .i64 (r.sl : Int))
  c1 : V.cell? ⟨a.R, 1, none⟩ = some (.int .i64 (r.li : Int))
  c5 : V.cell? ⟨a.R, 5, none⟩ = some (.pointer (some ⟨a.C, 0, none⟩))
  cb : SE.Cb V a.C r.c
  lt : a.R < V.heap.size
theorem Kc.al {a : RA} {r : Rn} {V : World} (h : Kc a r V) (o : Obj) : Kc a r (V.alloc o) :=
  ⟨((CH.below_alloc V o).cell (p := ⟨a.R, 0, none⟩) h.lt).trans h.c0, ((CH.below_alloc V o).cell (p := ⟨a.R, 1, none⟩) h.lt).trans h.c1, ((CH.below_alloc V o).cell (p := ⟨a.R, 5, none⟩) h.lt).trans h.c5, h.cb.alloc o, by rw [World.size_alloc]; exact Nat.lt_succ_of_lt h.lt⟩
set_option maxHeartbeats 16000000 in
theorem look_any {w : World} {a : RA} {r : Rn} (h : Rm w a r) (hk : r.ok) :
    Calls Tryz.prog 13 #[.pointer (some ⟨a.R, 0, none⟩)] w fun e w' => e = .returned (.agg r.look) ∧ Below w.heap.size w w' := by
  have HH := hide h
  have HK := hide hk
  have hlt := lt_of_block h.rb
  have HKc : Hid (Kc a r (w.alloc (.cells #[.int .i64 0, .int .i64 0, .int .i64 0, .int .i64 0, .bool false, .int .i64 0, .int .i64 0, .int .i64 0, .int .i64 0, .bool false, .int .i64 0, .int .u64 0, .int .i64 0, .int .i64 0, .int .i64 0, .int .i64 0, .int .i64 0, .int .i64 0, .int .i64 0, .int .i64 0] 48))) := hide (Kc.al ⟨h.c0, h.c1, h.c5, h.cb, hlt⟩ _)
  have HBz : Hid (Below w.heap.size w (w.alloc (.cells #[.int .i64 0, .int .i64 0, .int .i64 0, .int .i64 0, .bool false, .int .i64 0, .int .i64 0, .int .i64 0, .int .i64 0, .bool false, .int .i64 0, .int .u64 0, .int .i64 0, .int .i64 0, .int .i64 0, .int .i64 0, .int .i64 0, .int .i64 0, .int .i64 0, .int .i64 0] 48))) := CH.below_alloc w _
  have HRz := hide (heap_alloc_new w (.cells #[.int .i64 0, .int .i64 0, .int .i64 0, .int .i64 0, .bool false, .int .i64 0, .int .i64 0, .int .i64 0, .int .i64 0, .bool false, .int .i64 0, .int .u64 0, .int .i64 0, .int .i64 0, .int .i64 0, .int .i64 0, .int .i64 0, .int .i64 0, .int .i64 0, .int .i64 0] 48))
  have hsz : (w.alloc (.cells #[.int .i64 0, .int .i64 0, .int .i64 0, .int .i64 0, .bool false, .int .i64 0, .int .i64 0, .int .i64 0, .int .i64 0, .bool false, .int .i64 0, .int .u64 0, .int .i64 0, .int .i64 0, .int .i64 0, .int .i64 0, .int .i64 0, .int .i64 0, .int .i64 0, .int .i64 0] 48)).heap.size = w.heap.size + 1 := World.size_alloc _ _
  clear h hk
  go_enter Tryz.func13, Tryz.ntmps13
  go_upto_region 1 with fail
  obtain ⟨W0, hW0⟩ : ∃ W0, w.alloc (.cells #[.int .i64 0, .int .i64 0, .int .i64 0, .int .i64 0, .bool false, .int .i64 0, .int .i64 0, .int .i64 0, .int .i64 0, .bool false, .int .i64 0, .int .u64 0, .int .i64 0, .int .i64 0, .int .i64 0, .int .i64 0, .int .i64 0, .int .i64 0, .int .i64 0, .int .i64 0] 48) = W0 := ⟨_, rfl⟩
  rw [hW0] at HKc HBz HRz hsz ⊢
  clear hW0
  have HKd : Hid (Kc a r W0.drew) := hide ⟨HKc.out.c0, HKc.out.c1, HKc.out.c5, HKc.out.cb, HKc.out.lt⟩
  have HKa : Hid (∀ o, Kc a r (W0.alloc o).drew) := hide fun o => ⟨(HKc.out.al o).c0, (HKc.out.al o).c1, (HKc.out.al o).c5, (HKc.out.al o).cb, (HKc.out.al o).lt⟩
  have HAz := hide (heap_alloc_new W0 (.cells #[.int .i64 0, .int .i64 0, .int .i64 0, .int .i64 0, .bool false, .int .i64 0, .int .i64 0, .int .i64 0, .int .i64 0, .bool false, .int .i64 0, .int .u64 0, .int .i64 0, .int .i64 0, .int .i64 0, .int .i64 0, .int .i64 0, .int .i64 0, .int .i64 0, .int .i64 0] 48))
  have HFin : Hid (Ky w a r #[.int .i64 (r.sl : Int), .int .i64 (r.li : Int), .int .i64 r.c.se, .int .i64 r.c.m.nu, .bool (r.c.m.k != 0), .int .i64 r.c.ti, .int .i64 0, .int .i64 0, .int .i64 0, .bool false, .int .i64 0, .int .u64 0, .int .i64 0, .int .i64 0, .int .i64 0, .int .i64 0, .int .i64 0, .int .i64 0, .int .i64 0, .int .i64 0] ((W0.alloc (.cells #[.int .i64 0, .int .i64 0, .int .i64 0, .int .i64 0, .bool false, .int .i64 0, .int .i64 0, .int .i64 0, .int .i64 0, .bool false, .int .i64 0, .int .u64 0, .int .i64 0, .int .i64 0, .int .i64 0, .int .i64 0, .int .i64 0, .int .i64 0, .int .i64 0, .int .i64 0] 48)).drew.setRow W0.heap.size #[.int .i64 (r.sl : Int), .int .i64 (r.li : Int), .int .i64 r.c.se, .int .i64 r.c.m.nu, .bool (r.c.m.k != 0), .int .i64 r.c.ti, .int .i64 0, .int .i64 0, .int .i64 0, .bool false, .int .i64 0, .int .u64 0, .int .i64 0, .int .i64 0, .int .i64 0, .int .i64 0, .int .i64 0, .int .i64 0, .int .i64 0, .int .i64 0])) := hide ⟨(setRow_other _ _ _ _ (by omega)).trans (((CH.below_alloc W0 _).block _ (by omega)).trans HRz.out), by have h1 := setRow_heap (W0.alloc (.cells #[.int .i64 0, .int .i64 0, .int .i64 0, .int .i64 0, .bool false, .int .i64 0, .int .i64 0, .int .i64 0, .int .i64 0, .bool false, .int .i64 0, .int .u64 0, .int .i64 0, .int .i64 0, .int .i64 0, .int .i64 0, .int .i64 0, .int .i64 0, .int .i64 0, .int .i64 0] 48)).drew W0.heap.size _ #[.int .i64 (r.sl : Int), .int .i64 (r.li : Int), .int .i64 r.c.se, .int .i64 r.c.m.nu, .bool (r.c.m.k != 0), .int .i64 r.c.ti, .int .i64 0, .int .i64 0, .int .i64 0, .bool false, .int .i64 0, .int .u64 0, .int .i64 0, .int .i64 0, .int .i64 0, .int .i64 0, .int .i64 0, .int .i64 0, .int .i64 0, .int .i64 0] _ _ HAz.out; rw [hsz] at h1 ⊢; exact h1, below_setRow (CH.below_drew (HBz.out.trans ((CH.below_alloc W0 _).mono HBz.out.size))) (by omega) _⟩
  have HKs : Hid (Kc a r ((W0.alloc (.cells #[.int .i64 0, .int .i64 0, .int .i64 0, .int .i64 0, .bool false, .int .i64 0, .int .i64 0, .int .i64 0, .int .i64 0, .bool false, .int .i64 0, .int .u64 0, .int .i64 0, .int .i64 0, .int .i64 0, .int .i64 0, .int .i64 0, .int .i64 0, .int .i64 0, .int .i64 0] 48)).drew.setRow W0.heap.size #[.int .i64 (r.sl : Int), .int .i64 (r.li : Int), .int .i64 r.c.se, .int .i64 r.c.m.nu, .bool (r.c.m.k != 0), .int .i64 r.c.ti, .int .i64 0, .int .i64 0, .int .i64 0, .bool false, .int .i64 0, .int .u64 0, .int .i64 0, .int .i64 0, .int .i64 0, .int .i64 0, .int .i64 0, .int .i64 0, .int .i64 0, .int .i64 0])) := hide (by
    have hn : a.R ≠ W0.heap.size := by omega
    have hC : a.C ≠ W0.heap.size := by have := HH.out.cb.lt; omega
    exact ⟨(cell_setRow_other _ _ _ ⟨a.R, 0, none⟩ hn).trans (HKa.out _).c0, (cell_setRow_other _ _ _ ⟨a.R, 1, none⟩ hn).trans (HKa.out _).c1, (cell_setRow_other _ _ _ ⟨a.R, 5, none⟩ hn).trans (HKa.out _).c5, (setRow_other _ _ _ _ hC).trans (HKa.out _).cb, by rw [size_setRow]; exact (HKa.out _).lt⟩)
  have HSz := hide hsz
  clear hsz
  go_cut [3] (fun p V => p = .pointer (some ⟨w.heap.size + 1, 0, none⟩) ∧ Hid (Ky w a r #[.int .i64 (r.sl : Int), .int .i64 (r.li : Int), .int .i64 r.c.se, .int .i64 r.c.m.nu, .bool (r.c.m.k != 0), .int .i64 r.c.ti, .int .i64 0, .int .i64 0, .int .i64 0, .bool false, .int .i64 0, .int .u64 0, .int .i64 0, .int .i64 0, .int .i64 0, .int .i64 0, .int .i64 0, .int .i64 0, .int .i64 0, .int .i64 0] V))
  case first =>
    refine wp_region_held_drew (S := fun V => Kc a r V) (by kernel_rfl) (HKd.out) (fun hHeld => ?_)
    refine wpAnyH_take (i := 0) (v := .pointer (some ⟨a.R, 0, none⟩)) rfl (by kernel_rfl) (by kernel_rfl) (by kernel_rfl) (fun _ _ _ h => h) (Or.inl ⟨by kernel_rfl, fun w1 hSw => by clear hHeld; have k0 := hSw.c0; have k1 := hSw.c1; have k5 := hSw.c5; go_simp⟩) hHeld ?_
    try simp only [Act.put]
    try simp only [List.getElem_toArray]
    try simp only [List.getElem_cons_succ]
    try simp only [List.getElem_cons_zero]
    try simp only [List.setIfInBounds_toArray]
    try simp only [List.set_cons_succ, List.set_cons_zero]
    refine wpAnyH_take (i := 1) (v := .pointer (some ⟨a.R, 0, none⟩)) rfl (by kernel_rfl) (by kernel_rfl) (by kernel_rfl) (fun _ _ _ h => h) (Or.inl ⟨by kernel_rfl, fun w1 hSw => by clear hHeld; have k0 := hSw.c0; have k1 := hSw.c1; have k5 := hSw.c5; go_simp⟩) hHeld ?_
    try simp only [Act.put]
    try simp only [List.getElem_toArray]
    try simp only [List.getElem_cons_succ]
    try simp only [List.getElem_cons_zero]
    try simp only [List.setIfInBounds_toArray]
    try simp only [List.set_cons_succ, List.set_cons_zero]
    refine wpAnyH_take (i := 2) (v := .pointer (some ⟨a.R, 0, none⟩)) rfl (by kernel_rfl) (by kernel_rfl) (by kernel_rfl) (fun _ _ _ h => h) (Or.inl ⟨by kernel_rfl, fun w1 hSw => by clear hHeld; have k0 := hSw.c0; have k1 := hSw.c1; have k5 := hSw.c5; go_simp⟩) hHeld ?_
    try simp only [Act.put]
    try simp only [List.getElem_toArray]
    try simp only [List.getElem_cons_succ]
    try simp only [List.getElem_cons_zero]
    try simp only [List.setIfInBounds_toArray]
    try simp only [List.set_cons_succ, List.set_cons_zero]
    refine wpAnyH_take (i := 3) (v := .int .i64 (r.sl : Int)) rfl (by kernel_rfl) (by kernel_rfl) (by kernel_rfl) (fun _ _ _ h => h) (Or.inl ⟨by kernel_rfl, fun w1 hSw => by clear hHeld; have k0 := hSw.c0; have k1 := hSw.c1; have k5 := hSw.c5; go_simp⟩) hHeld ?_
    try simp only [Act.put]
    try simp only [List.getElem_toArray]
    try simp only [List.getElem_cons_succ]
    try simp only [List.getElem_cons_zero]
    try simp only [List.setIfInBounds_toArray]
    try simp only [List.set_cons_succ, List.set_cons_zero]
    refine wpAnyH_take (i := 4) (v := .pointer (some ⟨a.R, 0, none⟩)) rfl (by kernel_rfl) (by kernel_rfl) (by kernel_rfl) (fun _ _ _ h => h) (Or.inl ⟨by kernel_rfl, fun w1 hSw => by clear hHeld; have k0 := hSw.c0; have k1 := hSw.c1; have k5 := hSw.c5; go_simp⟩) hHeld ?_
    try simp only [Act.put]
    try simp only [List.getElem_toArray]
    try simp only [List.getElem_cons_succ]
    try simp only [List.getElem_cons_zero]
    try simp only [List.setIfInBounds_toArray]
    try simp only [List.set_cons_succ, List.set_cons_zero]
    refine wpAnyH_take (i := 5) (v := .pointer (some ⟨a.R, 0, none⟩)) rfl (by kernel_rfl) (by kernel_rfl) (by kernel_rfl) (fun _ _ _ h => h) (Or.inl ⟨by kernel_rfl, fun w1 hSw => by clear hHeld; have k0 := hSw.c0; have k1 := hSw.c1; have k5 := hSw.c5; go_simp⟩) hHeld ?_
    try simp only [Act.put]
    try simp only [List.getElem_toArray]
    try simp only [List.getElem_cons_succ]
    try simp only [List.getElem_cons_zero]
    try simp only [List.setIfInBounds_toArray]
    try simp only [List.set_cons_succ, List.set_cons_zero]
    refine wpAnyH_take (i := 6) (v := .pointer (some ⟨a.R, 1, none⟩)) rfl (by kernel_rfl) (by kernel_rfl) (by kernel_rfl) (fun _ _ _ h => h) (Or.inl ⟨by kernel_rfl, fun w1 hSw => by clear hHeld; have k0 := hSw.c0; have k1 := hSw.c1; have k5 := hSw.c5; go_simp⟩) hHeld ?_
    try simp only [Act.put]
    try simp only [List.getElem_toArray]
    try simp only [List.getElem_cons_succ]
    try simp only [List.getElem_cons_zero]
    try simp only [List.setIfInBounds_toArray]
    try simp only [List.set_cons_succ, List.set_cons_zero]
    refine wpAnyH_take (i := 7) (v := .int .i64 (r.li : Int)) rfl (by kernel_rfl) (by kernel_rfl) (by kernel_rfl) (fun _ _ _ h => h) (Or.inl ⟨by kernel_rfl, fun w1 hSw => by clear hHeld; have k0 := hSw.c0; have k1 := hSw.c1; have k5 := hSw.c5; go_simp⟩) hHeld ?_
    try simp only [Act.put]
    try simp only [List.getElem_toArray]
    try simp only [List.getElem_cons_succ]
    try simp only [List.getElem_cons_zero]
    try simp only [List.setIfInBounds_toArray]
    try simp only [List.set_cons_succ, List.set_cons_zero]
    refine wpAnyH_take (i := 8) (v := .pointer (some ⟨a.R, 0, none⟩)) rfl (by kernel_rfl) (by kernel_rfl) (by kernel_rfl) (fun _ _ _ h => h) (Or.inl ⟨by kernel_rfl, fun w1 hSw => by clear hHeld; have k0 := hSw.c0; have k1 := hSw.c1; have k5 := hSw.c5; go_simp⟩) hHeld ?_
    try simp only [Act.put]
    try simp only [List.getElem_toArray]
    try simp only [List.getElem_cons_succ]
    try simp only [List.getElem_cons_zero]
    try simp only [List.setIfInBounds_toArray]
    try simp only [List.set_cons_succ, List.set_cons_zero]
    refine wpAnyH_take (i := 9) (v := .pointer (some ⟨a.R, 0, none⟩)) rfl (by kernel_rfl) (by kernel_rfl) (by kernel_rfl) (fun _ _ _ h => h) (Or.inl ⟨by kernel_rfl, fun w1 hSw => by clear hHeld; have k0 := hSw.c0; have k1 := hSw.c1; have k5 := hSw.c5; go_simp⟩) hHeld ?_
    try simp only [Act.put]
    try simp only [List.getElem_toArray]
    try simp only [List.getElem_cons_succ]
    try simp only [List.getElem_cons_zero]
    try simp only [List.setIfInBounds_toArray]
    try simp only [List.set_cons_succ, List.set_cons_zero]
    refine wpAnyH_take (i := 10) (v := .pointer (some ⟨a.R, 5, none⟩)) rfl (by kernel_rfl) (by kernel_rfl) (by kernel_rfl) (fun _ _ _ h => h) (Or.inl ⟨by kernel_rfl, fun w1 hSw => by clear hHeld; have k0 := hSw.c0; have k1 := hSw.c1; have k5 := hSw.c5; go_simp⟩) hHeld ?_
    try simp only [Act.put]
    try simp only [List.getElem_toArray]
    try simp only [List.getElem_cons_succ]
    try simp only [List.getElem_cons_zero]
    try simp only [List.setIfInBounds_toArray]
    try simp only [List.set_cons_succ, List.set_cons_zero]
    refine wpAnyH_take (i := 11) (v := .pointer (some ⟨a.C, 0, none⟩)) rfl (by kernel_rfl) (by kernel_rfl) (by kernel_rfl) (fun _ _ _ h => h) (Or.inl ⟨by kernel_rfl, fun w1 hSw => by clear hHeld; have k0 := hSw.c0; have k1 := hSw.c1; have k5 := hSw.c5; go_simp⟩) hHeld ?_
    try simp only [Act.put]
    try simp only [List.getElem_toArray]
    try simp only [List.getElem_cons_succ]
    try simp only [List.getElem_cons_zero]
    try simp only [List.setIfInBounds_toArray]
    try simp only [List.set_cons_succ, List.set_cons_zero]
    refine wpAnyH_take (i := 13) (v := .pointer (some ⟨a.R, 0, none⟩)) rfl (by kernel_rfl) (by kernel_rfl) (by kernel_rfl) (fun _ _ _ h => h) (Or.inl ⟨by kernel_rfl, fun w1 hSw => by clear hHeld; have k0 := hSw.c0; have k1 := hSw.c1; have k5 := hSw.c5; go_simp⟩) hHeld ?_
    try simp only [Act.put]
    try simp only [List.getElem_toArray]
    try simp only [List.getElem_cons_succ]
    try simp only [List.getElem_cons_zero]
    try simp only [List.setIfInBounds_toArray]
    try simp only [List.set_cons_succ, List.set_cons_zero]
    refine wpAnyH_take (i := 14) (v := .pointer (some ⟨a.R, 0, none⟩)) rfl (by kernel_rfl) (by kernel_rfl) (by kernel_rfl) (fun _ _ _ h => h) (Or.inl ⟨by kernel_rfl, fun w1 hSw => by clear hHeld; have k0 := hSw.c0; have k1 := hSw.c1; have k5 := hSw.c5; go_simp⟩) hHeld ?_
    try simp only [Act.put]
    try simp only [List.getElem_toArray]
    try simp only [List.getElem_cons_succ]
    try simp only [List.getElem_cons_zero]
    try simp only [List.setIfInBounds_toArray]
    try simp only [List.set_cons_succ, List.set_cons_zero]
    refine wpAnyH_take (i := 15) (v := .pointer (some ⟨a.R, 5, none⟩)) rfl (by kernel_rfl) (by kernel_rfl) (by kernel_rfl) (fun _ _ _ h => h) (Or.inl ⟨by kernel_rfl, fun w1 hSw => by clear hHeld; have k0 := hSw.c0; have k1 := hSw.c1; have k5 := hSw.c5; go_simp⟩) hHeld ?_
    try simp only [Act.put]
    try simp only [List.getElem_toArray]
    try simp only [List.getElem_cons_succ]
    try simp only [List.getElem_cons_zero]
    try simp only [List.setIfInBounds_toArray]
    try simp only [List.set_cons_succ, List.set_cons_zero]
    refine wpAnyH_take (i := 16) (v := .pointer (some ⟨a.C, 0, none⟩)) rfl (by kernel_rfl) (by kernel_rfl) (by kernel_rfl) (fun _ _ _ h => h) (Or.inl ⟨by kernel_rfl, fun w1 hSw => by clear hHeld; have k0 := hSw.c0; have k1 := hSw.c1; have k5 := hSw.c5; go_simp⟩) hHeld ?_
    try simp only [Act.put]
    try simp only [List.getElem_toArray]
    try simp only [List.getElem_cons_succ]
    try simp only [List.getElem_cons_zero]
    try simp only [List.setIfInBounds_toArray]
    try simp only [List.set_cons_succ, List.set_cons_zero]
    refine wpAnyH_take (i := 17) (v := .pointer (some ⟨a.C, 0, none⟩)) rfl (by kernel_rfl) (by kernel_rfl) (by kernel_rfl) (fun _ _ _ h => h) (Or.inl ⟨by kernel_rfl, fun w1 hSw => by clear hHeld; have k0 := hSw.c0; have k1 := hSw.c1; have k5 := hSw.c5; go_simp⟩) hHeld ?_
    try simp only [Act.put]
    try simp only [List.getElem_toArray]
    try simp only [List.getElem_cons_succ]
    try simp only [List.getElem_cons_zero]
    try simp only [List.setIfInBounds_toArray]
    try simp only [List.set_cons_succ, List.set_cons_zero]
    refine wpAnyH_take (i := 18) (v := .pointer (some ⟨a.C, 0, none⟩)) rfl (by kernel_rfl) (by kernel_rfl) (by kernel_rfl) (fun _ _ _ h => h) (Or.inl ⟨by kernel_rfl, fun w1 hSw => by clear hHeld; have k0 := hSw.c0; have k1 := hSw.c1; have k5 := hSw.c5; go_simp⟩) hHeld ?_
    try simp only [Act.put]
    try simp only [List.getElem_toArray]
    try simp only [List.getElem_cons_succ]
    try simp only [List.getElem_cons_zero]
    try simp only [List.setIfInBounds_toArray]
    try simp only [List.set_cons_succ, List.set_cons_zero]
    refine wpAnyH_take (i := 20) (v := .pointer (some ⟨a.R, 0, none⟩)) rfl (by kernel_rfl) (by kernel_rfl) (by kernel_rfl) (fun _ _ _ h => h) (Or.inl ⟨by kernel_rfl, fun w1 hSw => by clear hHeld; have k0 := hSw.c0; have k1 := hSw.c1; have k5 := hSw.c5; go_simp⟩) hHeld ?_
    try simp only [Act.put]
    try simp only [List.getElem_toArray]
    try simp only [List.getElem_cons_succ]
    try simp only [List.getElem_cons_zero]
    try simp only [List.setIfInBounds_toArray]
    try simp only [List.set_cons_succ, List.set_cons_zero]
    refine wpAnyH_take (i := 21) (v := .pointer (some ⟨a.R, 0, none⟩)) rfl (by kernel_rfl) (by kernel_rfl) (by kernel_rfl) (fun _ _ _ h => h) (Or.inl ⟨by kernel_rfl, fun w1 hSw => by clear hHeld; have k0 := hSw.c0; have k1 := hSw.c1; have k5 := hSw.c5; go_simp⟩) hHeld ?_
    try simp only [Act.put]
    try simp only [List.getElem_toArray]
    try simp only [List.getElem_cons_succ]
    try simp only [List.getElem_cons_zero]
    try simp only [List.setIfInBounds_toArray]
    try simp only [List.set_cons_succ, List.set_cons_zero]
    refine wpAnyH_take (i := 22) (v := .pointer (some ⟨a.R, 5, none⟩)) rfl (by kernel_rfl) (by kernel_rfl) (by kernel_rfl) (fun _ _ _ h => h) (Or.inl ⟨by kernel_rfl, fun w1 hSw => by clear hHeld; have k0 := hSw.c0; have k1 := hSw.c1; have k5 := hSw.c5; go_simp⟩) hHeld ?_
    try simp only [Act.put]
    try simp only [List.getElem_toArray]
    try simp only [List.getElem_cons_succ]
    try simp only [List.getElem_cons_zero]
    try simp only [List.setIfInBounds_toArray]
    try simp only [List.set_cons_succ, List.set_cons_zero]
    refine wpAnyH_take (i := 23) (v := .pointer (some ⟨a.C, 0, none⟩)) rfl (by kernel_rfl) (by kernel_rfl) (by kernel_rfl) (fun _ _ _ h => h) (Or.inl ⟨by kernel_rfl, fun w1 hSw => by clear hHeld; have k0 := hSw.c0; have k1 := hSw.c1; have k5 := hSw.c5; go_simp⟩) hHeld ?_
    try simp only [Act.put]
    try simp only [List.getElem_toArray]
    try simp only [List.getElem_cons_succ]
    try simp only [List.getElem_cons_zero]
    try simp only [List.setIfInBounds_toArray]
    try simp only [List.set_cons_succ, List.set_cons_zero]
    refine wpAnyH_take (i := 24) (v := .pointer (some ⟨a.C, 0, none⟩)) rfl (by kernel_rfl) (by kernel_rfl) (by kernel_rfl) (fun _ _ _ h => h) (Or.inl ⟨by kernel_rfl, fun w1 hSw => by clear hHeld; have k0 := hSw.c0; have k1 := hSw.c1; have k5 := hSw.c5; go_simp⟩) hHeld ?_
    try simp only [Act.put]
    try simp only [List.getElem_toArray]
    try simp only [List.getElem_cons_succ]
    try simp only [List.getElem_cons_zero]
    try simp only [List.setIfInBounds_toArray]
    try simp only [List.set_cons_succ, List.set_cons_zero]
    refine wpAnyH_take (i := 25) (v := .pointer (some ⟨a.C, 0, none⟩)) rfl (by kernel_rfl) (by kernel_rfl) (by kernel_rfl) (fun _ _ _ h => h) (Or.inl ⟨by kernel_rfl, fun w1 hSw => by clear hHeld; have k0 := hSw.c0; have k1 := hSw.c1; have k5 := hSw.c5; go_simp⟩) hHeld ?_
    try simp only [Act.put]
    try simp only [List.getElem_toArray]
    try simp only [List.getElem_cons_succ]
    try simp only [List.getElem_cons_zero]
    try simp only [List.setIfInBounds_toArray]
    try simp only [List.set_cons_succ, List.set_cons_zero]
    refine wpAnyH_take (i := 27) (v := .pointer (some ⟨a.R, 0, none⟩)) rfl (by kernel_rfl) (by kernel_rfl) (by kernel_rfl) (fun _ _ _ h => h) (Or.inl ⟨by kernel_rfl, fun w1 hSw => by clear hHeld; have k0 := hSw.c0; have k1 := hSw.c1; have k5 := hSw.c5; go_simp⟩) hHeld ?_
    try simp only [Act.put]
    try simp only [List.getElem_toArray]
    try simp only [List.getElem_cons_succ]
    try simp only [List.getElem_cons_zero]
    try simp only [List.setIfInBounds_toArray]
    try simp only [List.set_cons_succ, List.set_cons_zero]
    refine wpAnyH_take (i := 28) (v := .pointer (some ⟨a.R, 0, none⟩)) rfl (by kernel_rfl) (by kernel_rfl) (by kernel_rfl) (fun _ _ _ h => h) (Or.inl ⟨by kernel_rfl, fun w1 hSw => by clear hHeld; have k0 := hSw.c0; have k1 := hSw.c1; have k5 := hSw.c5; go_simp⟩) hHeld ?_
    try simp only [Act.put]
    try simp only [List.getElem_toArray]
    try simp only [List.getElem_cons_succ]
    try simp only [List.getElem_cons_zero]
    try simp only [List.setIfInBounds_toArray]
    try simp only [List.set_cons_succ, List.set_cons_zero]
    refine wpAnyH_take (i := 29) (v := .pointer (some ⟨a.R, 5, none⟩)) rfl (by kernel_rfl) (by kernel_rfl) (by kernel_rfl) (fun _ _ _ h => h) (Or.inl ⟨by kernel_rfl, fun w1 hSw => by clear hHeld; have k0 := hSw.c0; have k1 := hSw.c1; have k5 := hSw.c5; go_simp⟩) hHeld ?_
    try simp only [Act.put]
    try simp only [List.getElem_toArray]
    try simp only [List.getElem_cons_succ]
    try simp only [List.getElem_cons_zero]
    try simp only [List.setIfInBounds_toArray]
    try simp only [List.set_cons_succ, List.set_cons_zero]
    refine wpAnyH_take (i := 30) (v := .pointer (some ⟨a.C, 0, none⟩)) rfl (by kernel_rfl) (by kernel_rfl) (by kernel_rfl) (fun _ _ _ h => h) (Or.inl ⟨by kernel_rfl, fun w1 hSw => by clear hHeld; have k0 := hSw.c0; have k1 := hSw.c1; have k5 := hSw.c5; go_simp⟩) hHeld ?_
    try simp only [Act.put]
    try simp only [List.getElem_toArray]
    try simp only [List.getElem_cons_succ]
    try simp only [List.getElem_cons_zero]
    try simp only [List.setIfInBounds_toArray]
    try simp only [List.set_cons_succ, List.set_cons_zero]
    refine wpAnyH_take (i := 31) (v := .pointer (some ⟨a.C, 0, none⟩)) rfl (by kernel_rfl) (by kernel_rfl) (by kernel_rfl) (fun _ _ _ h => h) (Or.inl ⟨by kernel_rfl, fun w1 hSw => by clear hHeld; have k0 := hSw.c0; have k1 := hSw.c1; have k5 := hSw.c5; go_simp⟩) hHeld ?_
    try simp only [Act.put]
    try simp only [List.getElem_toArray]
    try simp only [List.getElem_cons_succ]
    try simp only [List.getElem_cons_zero]
    try simp only [List.setIfInBounds_toArray]
    try simp only [List.set_cons_succ, List.set_cons_zero]
    refine wpAnyH_take (i := 32) (v := .pointer (some ⟨a.C, 0, none⟩)) rfl (by kernel_rfl) (by kernel_rfl) (by kernel_rfl) (fun _ _ _ h => h) (Or.inl ⟨by kernel_rfl, fun w1 hSw => by clear hHeld; have k0 := hSw.c0; have k1 := hSw.c1; have k5 := hSw.c5; go_simp⟩) hHeld ?_
    try simp only [Act.put]
    try simp only [List.getElem_toArray]
    try simp only [List.getElem_cons_succ]
    try simp only [List.getElem_cons_zero]
    try simp only [List.setIfInBounds_toArray]
    try simp only [List.set_cons_succ, List.set_cons_zero]
    refine wpAnyH_ready (rs := [12, 35]) (by kernel_rfl) (by simp) ?_
    refine AllReadyH.cons rfl (fun K hK => ?_) (AllReadyH.cons rfl (fun K hK => ?_) AllReadyH.nil)
    · go_simp
      refine (SE.sess_any hHeld.cb).mono ?_
      rintro e V9 ⟨rfl, rfl⟩
      refine hK.out _ _ (hHeld) (fun hHeld => ?_)
      clear hK K
      try simp only [Act.put]
      try simp only [List.getElem_toArray]
      try simp only [List.getElem_cons_succ]
      try simp only [List.getElem_cons_zero]
      try simp only [List.setIfInBounds_toArray]
      try simp only [List.set_cons_succ, List.set_cons_zero]
      refine wpAnyH_ready (rs := [19, 35]) (by kernel_rfl) (by simp) ?_
      refine AllReadyH.cons rfl (fun K hK => ?_) (AllReadyH.cons rfl (fun K hK => ?_) AllReadyH.nil)
      · go_simp
        refine (SE.waits_any hHeld.cb).mono ?_
        rintro e V9 ⟨rfl, rfl⟩
        refine hK.out _ _ (hHeld) (fun hHeld => ?_)
        clear hK K
        try simp only [Act.put]
        try simp only [List.getElem_toArray]
        try simp only [List.getElem_cons_succ]
        try simp only [List.getElem_cons_zero]
        try simp only [List.setIfInBounds_toArray]
        try simp only [List.set_cons_succ, List.set_cons_zero]
        refine wpAnyH_ready (rs := [26, 35]) (by kernel_rfl) (by simp) ?_
        refine AllReadyH.cons rfl (fun K hK => ?_) (AllReadyH.cons rfl (fun K hK => ?_) AllReadyH.nil)
        · go_simp
          refine (SE.busy_any hHeld.cb).mono ?_
          rintro e V9 ⟨rfl, rfl⟩
          refine hK.out _ _ (hHeld) (fun hHeld => ?_)
          clear hK K
          try simp only [Act.put]
          try simp only [List.getElem_toArray]
          try simp only [List.getElem_cons_succ]
          try simp only [List.getElem_cons_zero]
          try simp only [List.setIfInBounds_toArray]
          try simp only [List.set_cons_succ, List.set_cons_zero]
          refine wpAnyH_ready (rs := [33, 35]) (by kernel_rfl) (by simp) ?_
          refine AllReadyH.cons rfl (fun K hK => ?_) (AllReadyH.cons rfl (fun K hK => ?_) AllReadyH.nil)
          · go_simp
            refine (SE.timer_any hHeld.cb).mono ?_
            rintro e V9 ⟨rfl, rfl⟩
            refine hK.out _ _ (hHeld) (fun hHeld => ?_)
            clear hK K
            try simp only [Act.put]
            try simp only [List.getElem_toArray]
            try simp only [List.getElem_cons_succ]
            try simp only [List.getElem_cons_zero]
            try simp only [List.setIfInBounds_toArray]
            try simp only [List.set_cons_succ, List.set_cons_zero]
            refine wpAnyH_take (i := 34) (v := .agg #[.int .i64 (r.sl : Int), .int .i64 (r.li : Int), .int .i64 r.c.se, .int .i64 r.c.m.nu, .bool (r.c.m.k != 0), .int .i64 r.c.ti, .int .i64 0, .int .i64 0, .int .i64 0, .bool false, .int .i64 0, .int .u64 0, .int .i64 0, .int .i64 0, .int .i64 0, .int .i64 0, .int .i64 0, .int .i64 0, .int .i64 0, .int .i64 0]) rfl (by kernel_rfl) (by kernel_rfl) (by kernel_rfl) (fun _ _ _ h => h) (Or.inl ⟨by kernel_rfl, fun w1 hSw => by clear hHeld; have k0 := hSw.c0; have k1 := hSw.c1; have k5 := hSw.c5; go_simp⟩) hHeld ?_
            try simp only [Act.put]
            try simp only [List.getElem_toArray]
            try simp only [List.getElem_cons_succ]
            try simp only [List.getElem_cons_zero]
            try simp only [List.setIfInBounds_toArray]
            try simp only [List.set_cons_succ, List.set_cons_zero]
            refine wpAnyH_ready (rs := [35]) (by kernel_rfl) (by simp) ?_
            refine AllReadyH.cons rfl (fun K hK => ?_) AllReadyH.nil
            go_simp
            refine hK.out _ _ (HKa.out _) (fun hHeld => ?_)
            clear hK K
            try simp only [Act.put]
            try simp only [List.getElem_toArray]
            try simp only [List.getElem_cons_succ]
            try simp only [List.getElem_cons_zero]
            try simp only [List.setIfInBounds_toArray]
            try simp only [List.set_cons_succ, List.set_cons_zero]
            refine wpAnyH_ready (rs := [36]) (by kernel_rfl) (by simp) ?_
            refine AllReadyH.cons rfl (fun K hK => ?_) AllReadyH.nil
            refine step_store_row rfl 48 (.tmp 3) (.tmp 38) rfl W0.heap.size #[.int .i64 (r.sl : Int), .int .i64 (r.li : Int), .int .i64 r.c.se, .int .i64 r.c.m.nu, .bool (r.c.m.k != 0), .int .i64 r.c.ti, .int .i64 0, .int .i64 0, .int .i64 0, .bool false, .int .i64 0, .int .u64 0, .int .i64 0, .int .i64 0, .int .i64 0, .int .i64 0, .int .i64 0, .int .i64 0, .int .i64 0, .int .i64 0] rfl rfl 48 #[.int .i64 0, .int .i64 0, .int .i64 0, .int .i64 0, .bool false, .int .i64 0, .int .i64 0, .int .i64 0, .int .i64 0, .bool false, .int .i64 0, .int .u64 0, .int .i64 0, .int .i64 0, .int .i64 0, .int .i64 0, .int .i64 0, .int .i64 0, .int .i64 0, .int .i64 0] HAz.out (by kernel_rfl) rfl (by simp [Value.oneCell']) ?_
            refine hK.out _ _ (HKs.out) (fun hHeld => ?_)
            clear hK K
            try simp only [Act.put]
            try simp only [List.getElem_toArray]
            try simp only [List.getElem_cons_succ]
            try simp only [List.getElem_cons_zero]
            try simp only [List.setIfInBounds_toArray]
            try simp only [List.set_cons_succ, List.set_cons_zero]
            refine wpAnyH_done (by kernel_rfl) ?_ _
            go_wp2_with fail
            go_meet
            exact ⟨by rw [HSz.out], HFin⟩
          · go_simp
            refine hK.out _ _ (HKa.out _) (fun hHeld => ?_)
            clear hK K
            try simp only [Act.put]
            try simp only [List.getElem_toArray]
            try simp only [List.getElem_cons_succ]
            try simp only [List.getElem_cons_zero]
            try simp only [List.setIfInBounds_toArray]
            try simp only [List.set_cons_succ, List.set_cons_zero]
            refine wpAnyH_ready (rs := [33]) (by kernel_rfl) (by simp) ?_
            refine AllReadyH.cons rfl (fun K hK => ?_) AllReadyH.nil
            go_simp
            refine (SE.timer_any hHeld.cb).mono ?_
            rintro e V9 ⟨rfl, rfl⟩
            refine hK.out _ _ (hHeld) (fun hHeld => ?_)
            clear hK K
            try simp only [Act.put]
            try simp only [List.getElem_toArray]
            try simp only [List.getElem_cons_succ]
            try simp only [List.getElem_cons_zero]
            try simp only [List.setIfInBounds_toArray]
            try simp only [List.set_cons_succ, List.set_cons_zero]
            refine wpAnyH_take (i := 34) (v := .agg #[.int .i64 (r.sl : Int), .int .i64 (r.li : Int), .int .i64 r.c.se, .int .i64 r.c.m.nu, .bool (r.c.m.k != 0), .int .i64 r.c.ti, .int .i64 0, .int .i64 0, .int .i64 0, .bool false, .int .i64 0, .int .u64 0, .int .i64 0, .int .i64 0, .int .i64 0, .int .i64 0, .int .i64 0, .int .i64 0, .int .i64 0, .int .i64 0]) rfl (by kernel_rfl) (by kernel_rfl) (by kernel_rfl) (fun _ _ _ h => h) (Or.inl ⟨by kernel_rfl, fun w1 hSw => by clear hHeld; have k0 := hSw.c0; have k1 := hSw.c1; have k5 := hSw.c5; go_simp⟩) hHeld ?_
            try simp only [Act.put]
            try simp only [List.getElem_toArray]
            try simp only [List.getElem_cons_succ]
            try simp only [List.getElem_cons_zero]
            try simp only [List.setIfInBounds_toArray]
            try simp only [List.set_cons_succ, List.set_cons_zero]
            refine wpAnyH_ready (rs := [36]) (by kernel_rfl) (by simp) ?_
            refine AllReadyH.cons rfl (fun K hK => ?_) AllReadyH.nil
            refine step_store_row rfl 48 (.tmp 3) (.tmp 38) rfl W0.heap.size #[.int .i64 (r.sl : Int), .int .i64 (r.li : Int), .int .i64 r.c.se, .int .i64 r.c.m.nu, .bool (r.c.m.k != 0), .int .i64 r.c.ti, .int .i64 0, .int .i64 0, .int .i64 0, .bool false, .int .i64 0, .int .u64 0, .int .i64 0, .int .i64 0, .int .i64 0, .int .i64 0, .int .i64 0, .int .i64 0, .int .i64 0, .int .i64 0] rfl rfl 48 #[.int .i64 0, .int .i64 0, .int .i64 0, .int .i64 0, .bool false, .int .i64 0, .int .i64 0, .int .i64 0, .int .i64 0, .bool false, .int .i64 0, .int .u64 0, .int .i64 0, .int .i64 0, .int .i64 0, .int .i64 0, .int .i64 0, .int .i64 0, .int .i64 0, .int .i64 0] HAz.out (by kernel_rfl) rfl (by simp [Value.oneCell']) ?_
            refine hK.out _ _ (HKs.out) (fun hHeld => ?_)
            clear hK K
            try simp only [Act.put]
            try simp only [List.getElem_toArray]
            try simp only [List.getElem_cons_succ]
            try simp only [List.getElem_cons_zero]
            try simp only [List.setIfInBounds_toArray]
            try simp only [List.set_cons_succ, List.set_cons_zero]
            refine wpAnyH_done (by kernel_rfl) ?_ _
            go_wp2_with fail
            go_meet
            exact ⟨by rw [HSz.out], HFin⟩
        · go_simp
          refine hK.out _ _ (HKa.out _) (fun hHeld => ?_)
          clear hK K
          try simp only [Act.put]
          try simp only [List.getElem_toArray]
          try simp only [List.getElem_cons_succ]
          try simp only [List.getElem_cons_zero]
          try simp only [List.setIfInBounds_toArray]
          try simp only [List.set_cons_succ, List.set_cons_zero]
          refine wpAnyH_ready (rs := [26]) (by kernel_rfl) (by simp) ?_
          refine AllReadyH.cons rfl (fun K hK => ?_) AllReadyH.nil
          go_simp
          refine (SE.busy_any hHeld.cb).mono ?_
          rintro e V9 ⟨rfl, rfl⟩
          refine hK.out _ _ (hHeld) (fun hHeld => ?_)
          clear hK K
          try simp only [Act.put]
          try simp only [List.getElem_toArray]
          try simp only [List.getElem_cons_succ]
          try simp only [List.getElem_cons_zero]
          try simp only [List.setIfInBounds_toArray]
          try simp only [List.set_cons_succ, List.set_cons_zero]
          refine wpAnyH_ready (rs := [33]) (by kernel_rfl) (by simp) ?_
          refine AllReadyH.cons rfl (fun K hK => ?_) AllReadyH.nil
          go_simp
          refine (SE.timer_any hHeld.cb).mono ?_
          rintro e V9 ⟨rfl, rfl⟩
          refine hK.out _ _ (hHeld) (fun hHeld => ?_)
          clear hK K
          try simp only [Act.put]
          try simp only [List.getElem_toArray]
          try simp only [List.getElem_cons_succ]
          try simp only [List.getElem_cons_zero]
          try simp only [List.setIfInBounds_toArray]
          try simp only [List.set_cons_succ, List.set_cons_zero]
          refine wpAnyH_take (i := 34) (v := .agg #[.int .i64 (r.sl : Int), .int .i64 (r.li : Int), .int .i64 r.c.se, .int .i64 r.c.m.nu, .bool (r.c.m.k != 0), .int .i64 r.c.ti, .int .i64 0, .int .i64 0, .int .i64 0, .bool false, .int .i64 0, .int .u64 0, .int .i64 0, .int .i64 0, .int .i64 0, .int .i64 0, .int .i64 0, .int .i64 0, .int .i64 0, .int .i64 0]) rfl (by kernel_rfl) (by kernel_rfl) (by kernel_rfl) (fun _ _ _ h => h) (Or.inl ⟨by kernel_rfl, fun w1 hSw => by clear hHeld; have k0 := hSw.c0; have k1 := hSw.c1; have k5 := hSw.c5; go_simp⟩) hHeld ?_
          try simp only [Act.put]
          try simp only [List.getElem_toArray]
          try simp only [List.getElem_cons_succ]
          try simp only [List.getElem_cons_zero]
          try simp only [List.setIfInBounds_toArray]
          try simp only [List.set_cons_succ, List.set_cons_zero]
          refine wpAnyH_ready (rs := [36]) (by kernel_rfl) (by simp) ?_
          refine AllReadyH.cons rfl (fun K hK => ?_) AllReadyH.nil
          refine step_store_row rfl 48 (.tmp 3) (.tmp 38) rfl W0.heap.size #[.int .i64 (r.sl : Int), .int .i64 (r.li : Int), .int .i64 r.c.se, .int .i64 r.c.m.nu, .bool (r.c.m.k != 0), .int .i64 r.c.ti, .int .i64 0, .int .i64 0, .int .i64 0, .bool false, .int .i64 0, .int .u64 0, .int .i64 0, .int .i64 0, .int .i64 0, .int .i64 0, .int .i64 0, .int .i64 0, .int .i64 0, .int .i64 0] rfl rfl 48 #[.int .i64 0, .int .i64 0, .int .i64 0, .int .i64 0, .bool false, .int .i64 0, .int .i64 0, .int .i64 0, .int .i64 0, .bool false, .int .i64 0, .int .u64 0, .int .i64 0, .int .i64 0, .int .i64 0, .int .i64 0, .int .i64 0, .int .i64 0, .int .i64 0, .int .i64 0] HAz.out (by kernel_rfl) rfl (by simp [Value.oneCell']) ?_
          refine hK.out _ _ (HKs.out) (fun hHeld => ?_)
          clear hK K
          try simp only [Act.put]
          try simp only [List.getElem_toArray]
          try simp only [List.getElem_cons_succ]
          try simp only [List.getElem_cons_zero]
          try simp only [List.setIfInBounds_toArray]
          try simp only [List.set_cons_succ, List.set_cons_zero]
          refine wpAnyH_done (by kernel_rfl) ?_ _
          go_wp2_with fail
          go_meet
          exact ⟨by rw [HSz.out], HFin⟩
      · go_simp
        refine hK.out _ _ (HKa.out _) (fun hHeld => ?_)
        clear hK K
        try simp only [Act.put]
        try simp only [List.getElem_toArray]
        try simp only [List.getElem_cons_succ]
        try simp only [List.getElem_cons_zero]
        try simp only [List.setIfInBounds_toArray]
        try simp only [List.set_cons_succ, List.set_cons_zero]
        refine wpAnyH_ready (rs := [19]) (by kernel_rfl) (by simp) ?_
        refine AllReadyH.cons rfl (fun K hK => ?_) AllReadyH.nil
        go_simp
        refine (SE.waits_any hHeld.cb).mono ?_
        rintro e V9 ⟨rfl, rfl⟩
        refine hK.out _ _ (hHeld) (fun hHeld => ?_)
        clear hK K
        try simp only [Act.put]
        try simp only [List.getElem_toArray]
        try simp only [List.getElem_cons_succ]
        try simp only [List.getElem_cons_zero]
        try simp only [List.setIfInBounds_toArray]
        try simp only [List.set_cons_succ, List.set_cons_zero]
        refine wpAnyH_ready (rs := [26]) (by kernel_rfl) (by simp) ?_
        refine AllReadyH.cons rfl (fun K hK => ?_) AllReadyH.nil
        go_simp
        refine (SE.busy_any hHeld.cb).mono ?_
        rintro e V9 ⟨rfl, rfl⟩
        refine hK.out _ _ (hHeld) (fun hHeld => ?_)
        clear hK K
        try simp only [Act.put]
        try simp only [List.getElem_toArray]
        try simp only [List.getElem_cons_succ]
        try simp only [List.getElem_cons_zero]
        try simp only [List.setIfInBounds_toArray]
        try simp only [List.set_cons_succ, List.set_cons_zero]
        refine wpAnyH_ready (rs := [33]) (by kernel_rfl) (by simp) ?_
        refine AllReadyH.cons rfl (fun K hK => ?_) AllReadyH.nil
        go_simp
        refine (SE.timer_any hHeld.cb).mono ?_
        rintro e V9 ⟨rfl, rfl⟩
        refine hK.out _ _ (hHeld) (fun hHeld => ?_)
        clear hK K
        try simp only [Act.put]
        try simp only [List.getElem_toArray]
        try simp only [List.getElem_cons_succ]
        try simp only [List.getElem_cons_zero]
        try simp only [List.setIfInBounds_toArray]
        try simp only [List.set_cons_succ, List.set_cons_zero]
        refine wpAnyH_take (i := 34) (v := .agg #[.int .i64 (r.sl : Int), .int .i64 (r.li : Int), .int .i64 r.c.se, .int .i64 r.c.m.nu, .bool (r.c.m.k != 0), .int .i64 r.c.ti, .int .i64 0, .int .i64 0, .int .i64 0, .bool false, .int .i64 0, .int .u64 0, .int .i64 0, .int .i64 0, .int .i64 0, .int .i64 0, .int .i64 0, .int .i64 0, .int .i64 0, .int .i64 0]) rfl (by kernel_rfl) (by kernel_rfl) (by kernel_rfl) (fun _ _ _ h => h) (Or.inl ⟨by kernel_rfl, fun w1 hSw => by clear hHeld; have k0 := hSw.c0; have k1 := hSw.c1; have k5 := hSw.c5; go_simp⟩) hHeld ?_
        try simp only [Act.put]
        try simp only [List.getElem_toArray]
        try simp only [List.getElem_cons_succ]
        try simp only [List.getElem_cons_zero]
        try simp only [List.setIfInBounds_toArray]
        try simp only [List.set_cons_succ, List.set_cons_zero]
        refine wpAnyH_ready (rs := [36]) (by kernel_rfl) (by simp) ?_
        refine AllReadyH.cons rfl (fun K hK => ?_) AllReadyH.nil
        refine step_store_row rfl 48 (.tmp 3) (.tmp 38) rfl W0.heap.size #[.int .i64 (r.sl : Int), .int .i64 (r.li : Int), .int .i64 r.c.se, .int .i64 r.c.m.nu, .bool (r.c.m.k != 0), .int .i64 r.c.ti, .int .i64 0, .int .i64 0, .int .i64 0, .bool false, .int .i64 0, .int .u64 0, .int .i64 0, .int .i64 0, .int .i64 0, .int .i64 0, .int .i64 0, .int .i64 0, .int .i64 0, .int .i64 0] rfl rfl 48 #[.int .i64 0, .int .i64 0, .int .i64 0, .int .i64 0, .bool false, .int .i64 0, .int .i64 0, .int .i64 0, .int .i64 0, .bool false, .int .i64 0, .int .u64 0, .int .i64 0, .int .i64 0, .int .i64 0, .int .i64 0, .int .i64 0, .int .i64 0, .int .i64 0, .int .i64 0] HAz.out (by kernel_rfl) rfl (by simp [Value.oneCell']) ?_
        refine hK.out _ _ (HKs.out) (fun hHeld => ?_)
        clear hK K
        try simp only [Act.put]
        try simp only [List.getElem_toArray]
        try simp only [List.getElem_cons_succ]
        try simp only [List.getElem_cons_zero]
        try simp only [List.setIfInBounds_toArray]
        try simp only [List.set_cons_succ, List.set_cons_zero]
        refine wpAnyH_done (by kernel_rfl) ?_ _
        go_wp2_with fail
        go_meet
        exact ⟨by rw [HSz.out], HFin⟩
    · go_simp
      refine hK.out _ _ (HKa.out _) (fun hHeld => ?_)
      clear hK K
      try simp only [Act.put]
      try simp only [List.getElem_toArray]
      try simp only [List.getElem_cons_succ]
      try simp only [List.getElem_cons_zero]
      try simp only [List.setIfInBounds_toArray]
      try simp only [List.set_cons_succ, List.set_cons_zero]
      refine wpAnyH_ready (rs := [12]) (by kernel_rfl) (by simp) ?_
      refine AllReadyH.cons rfl (fun K hK => ?_) AllReadyH.nil
      go_simp
      refine (SE.sess_any hHeld.cb).mono ?_
      rintro e V9 ⟨rfl, rfl⟩
      refine hK.out _ _ (hHeld) (fun hHeld => ?_)
      clear hK K
      try simp only [Act.put]
      try simp only [List.getElem_toArray]
      try simp only [List.getElem_cons_succ]
      try simp only [List.getElem_cons_zero]
      try simp only [List.setIfInBounds_toArray]
      try simp only [List.set_cons_succ, List.set_cons_zero]
      refine wpAnyH_ready (rs := [19]) (by kernel_rfl) (by simp) ?_
      refine AllReadyH.cons rfl (fun K hK => ?_) AllReadyH.nil
      go_simp
      refine (SE.waits_any hHeld.cb).mono ?_
      rintro e V9 ⟨rfl, rfl⟩
      refine hK.out _ _ (hHeld) (fun hHeld => ?_)
      clear hK K
      try simp only [Act.put]
      try simp only [List.getElem_toArray]
      try simp only [List.getElem_cons_succ]
      try simp only [List.getElem_cons_zero]
      try simp only [List.setIfInBounds_toArray]
      try simp only [List.set_cons_succ, List.set_cons_zero]
      refine wpAnyH_ready (rs := [26]) (by kernel_rfl) (by simp) ?_
      refine AllReadyH.cons rfl (fun K hK => ?_) AllReadyH.nil
      go_simp
      refine (SE.busy_any hHeld.cb).mono ?_
      rintro e V9 ⟨rfl, rfl⟩
      refine hK.out _ _ (hHeld) (fun hHeld => ?_)
      clear hK K
      try simp only [Act.put]
      try simp only [List.getElem_toArray]
      try simp only [List.getElem_cons_succ]
      try simp only [List.getElem_cons_zero]
      try simp only [List.setIfInBounds_toArray]
      try simp only [List.set_cons_succ, List.set_cons_zero]
      refine wpAnyH_ready (rs := [33]) (by kernel_rfl) (by simp) ?_
      refine AllReadyH.cons rfl (fun K hK => ?_) AllReadyH.nil
      go_simp
      refine (SE.timer_any hHeld.cb).mono ?_
      rintro e V9 ⟨rfl, rfl⟩
      refine hK.out _ _ (hHeld) (fun hHeld => ?_)
      clear hK K
      try simp only [Act.put]
      try simp only [List.getElem_toArray]
      try simp only [List.getElem_cons_succ]
      try simp only [List.getElem_cons_zero]
      try simp only [List.setIfInBounds_toArray]
      try simp only [List.set_cons_succ, List.set_cons_zero]
      refine wpAnyH_take (i := 34) (v := .agg #[.int .i64 (r.sl : Int), .int .i64 (r.li : Int), .int .i64 r.c.se, .int .i64 r.c.m.nu, .bool (r.c.m.k != 0), .int .i64 r.c.ti, .int .i64 0, .int .i64 0, .int .i64 0, .bool false, .int .i64 0, .int .u64 0, .int .i64 0, .int .i64 0, .int .i64 0, .int .i64 0, .int .i64 0, .int .i64 0, .int .i64 0, .int .i64 0]) rfl (by kernel_rfl) (by kernel_rfl) (by kernel_rfl) (fun _ _ _ h => h) (Or.inl ⟨by kernel_rfl, fun w1 hSw => by clear hHeld; have k0 := hSw.c0; have k1 := hSw.c1; have k5 := hSw.c5; go_simp⟩) hHeld ?_
      try simp only [Act.put]
      try simp only [List.getElem_toArray]
      try simp only [List.getElem_cons_succ]
      try simp only [List.getElem_cons_zero]
      try simp only [List.setIfInBounds_toArray]
      try simp only [List.set_cons_succ, List.set_cons_zero]
      refine wpAnyH_ready (rs := [36]) (by kernel_rfl) (by simp) ?_
      refine AllReadyH.cons rfl (fun K hK => ?_) AllReadyH.nil
      refine step_store_row rfl 48 (.tmp 3) (.tmp 38) rfl W0.heap.size #[.int .i64 (r.sl : Int), .int .i64 (r.li : Int), .int .i64 r.c.se, .int .i64 r.c.m.nu, .bool (r.c.m.k != 0), .int .i64 r.c.ti, .int .i64 0, .int .i64 0, .int .i64 0, .bool false, .int .i64 0, .int .u64 0, .int .i64 0, .int .i64 0, .int .i64 0, .int .i64 0, .int .i64 0, .int .i64 0, .int .i64 0, .int .i64 0] rfl rfl 48 #[.int .i64 0, .int .i64 0, .int .i64 0, .int .i64 0, .bool false, .int .i64 0, .int .i64 0, .int .i64 0, .int .i64 0, .bool false, .int .i64 0, .int .u64 0, .int .i64 0, .int .i64 0, .int .i64 0, .int .i64 0, .int .i64 0, .int .i64 0, .int .i64 0, .int .i64 0] HAz.out (by kernel_rfl) rfl (by simp [Value.oneCell']) ?_
      refine hK.out _ _ (HKs.out) (fun hHeld => ?_)
      clear hK K
      try simp only [Act.put]
      try simp only [List.getElem_toArray]
      try simp only [List.getElem_cons_succ]
      try simp only [List.getElem_cons_zero]
      try simp only [List.setIfInBounds_toArray]
      try simp only [List.set_cons_succ, List.set_cons_zero]
      refine wpAnyH_done (by kernel_rfl) ?_ _
      go_wp2_with fail
      go_meet
      exact ⟨by rw [HSz.out], HFin⟩
  case rest =>
    obtain ⟨hp3, HKy⟩ := hcut
    subst hp3
    have HR2 := hide (HH.out.below HKy.out.bl)
    have c6 := HR2.out.c6
    obtain ⟨pj, hp0, hp1, hp2⟩ := jp_ptr a.ja r.j
    rw [hp0] at c6
    have HP1 := hide hp1
    have HP2 := hide hp2
    clear hp0 hp1 hp2 HKc HBz HRz
    go_upto_if 43 with fail
    go_cut [] (fun V => Hid (Ky w a r r.look V))
    case first =>
      cases hj : r.j with
      | none =>
        have e0 := HP1.out hj
        subst e0
        have HF : Hid (Ky w a r r.look wc) := hide (by have h1 := HKy.out; have e1 : r.look = #[.int .i64 (r.sl : Int), .int .i64 (r.li : Int), .int .i64 r.c.se, .int .i64 r.c.m.nu, .bool (r.c.m.k != 0), .int .i64 r.c.ti, .int .i64 0, .int .i64 0, .int .i64 0, .bool false, .int .i64 0, .int .u64 0, .int .i64 0, .int .i64 0, .int .i64 0, .int .i64 0, .int .i64 0, .int .i64 0, .int .i64 0, .int .i64 0] := by { unfold Rn.look; rw [hj] }; rw [e1]; exact h1)
        clear hj
        go_wp2_with fail
        go_meet
        exact HF
      | some j =>
        have e0 := HP2.out j hj
        subst e0
        have HSh := hide (show_any (HR2.out.j j hj) (HK.out.j j hj) HKy.out.bx)
        have HLk : Hid (r.look = #[.int .i64 (r.sl : Int), .int .i64 (r.li : Int), .int .i64 r.c.se, .int .i64 r.c.m.nu, .bool (r.c.m.k != 0), .int .i64 r.c.ti, .int .i64 j.no, .int .i64 j.ba, .int .i64 (j.m.dn : Int), .bool j.m.ov, .int .i64 (Im.resC j.m : Int), .int .u64 (Im.resB j.m : Int), .int .i64 (j.lg.len : Int), .int .i64 (j.lg.go : Int), .int .i64 (j.lg.said : Int), .int .i64 (j.lg.ti : Int), .int .i64 (j.ar.len : Int), .int .i64 (j.ar.go : Int), .int .i64 (j.ar.said : Int), .int .i64 (j.ar.ti : Int)]) := hide (by unfold Rn.look; rw [hj])
        clear hj
        go_wp2_with fail
        refine HSh.out.mono ?_
        rintro e w5 ⟨rfl, ho, hb⟩
        have HF : Hid (Ky w a r r.look w5) := hide ⟨(ho.block _ (lt_of_block HKy.out.rz) (by omega)).trans HKy.out.rz, by rw [HLk.out]; exact hb, HKy.out.bl.trans (ho.below (by omega) (HKy.out.bl.size))⟩
        clear ho hb
        go_wp2_with fail
        go_meet
        exact HF
    case rest =>
      have HK2 := hcut
      have HB2 : Hid (Below w.heap.size w (wc.setRow w.heap.size r.look)) := hide (below_setRow HK2.out.bl (Nat.le_refl _) _)
      have HR3 := hide (setRow_heap wc w.heap.size _ r.look _ _ HK2.out.rz)
      go_upto_region 4 with fail
      refine wp_region_list ?_
      refine wpList_load_row rfl 48 _ rfl (w.heap.size + 1) (by kernel_rfl) 48 r.look (0, 0) _ HK2.out.bx Tryz.underlying48 rfl (by rw [look_size]; kernel_rfl) ?_
      refine wpList_store_row rfl 48 _ _ rfl w.heap.size r.look (by kernel_rfl) (by kernel_rfl) 48 #[.int .i64 0, .int .i64 0, .int .i64 0, .int .i64 0, .bool false, .int .i64 0, .int .i64 0, .int .i64 0, .int .i64 0, .bool false, .int .i64 0, .int .u64 0, .int .i64 0, .int .i64 0, .int .i64 0, .int .i64 0, .int .i64 0, .int .i64 0, .int .i64 0, .int .i64 0] HK2.out.rz (by rw [look_size]; kernel_rfl) (by rw [look_size]; rfl) (look_one r) ?_
      refine wpList_nil ?_
      go_wp2_with fail
      refine bodyPost_ret (results_l1 rfl _ _ w.heap.size r.look rfl HR3.out (look_size r)) rfl ?_
      exact ⟨rfl, HB2.out⟩
end Go.Proofs.YtkfnedhllfdghaaGreatDoor.RN
end

section
namespace Go.Proofs.YtkfnedhllfdghaaGreatDoor.RN
open Go.RowKit Go.Shelf
set_option maxRecDepth 20000

/-- the runner's block and the message's box, as a call reads them -/
structure Hx (a : RA) (pj : Option Addr) (X : Nat) (m : W.Wr.Ms) (V : World) : Prop where
  c5 : V.cell? ⟨a.R, 5, none⟩ = some (.pointer (some ⟨a.C, 0, none⟩))
  c6 : V.cell? ⟨a.R, 6, none⟩ = some (.pointer pj)
  mg : W.Mg V X m
section
variable {w : World} {a : RA} {r : Rn}
set_option maxHeartbeats 4000000 in
theorem noted_any (h : Rm w a r) (hk : r.ok) (m : W.Wr.Ms) :
    Calls Tryz.prog 104 #[.pointer (some ⟨a.R, 0, none⟩), .agg (W.msgC m)] w fun e w' => e = .returned (.tuple #[]) ∧ St w a r w' a { r with c := (r.c.hear (smOf m)).c } := by
  have HHr := hide (fun (V : World) (hb : Below w.heap.size w V) => SE.hear_any hk.c (h.below hb).cb (smOf m))
  rw [smOf_c] at HHr
  unfold W.msgC at HHr ⊢
  have HH := hide h
  obtain ⟨pj, hp0, hp1, hp2⟩ := jp_ptr a.ja r.j
  have c5 := h.c5
  have c6 := h.c6
  rw [hp0] at c6
  have hlt := lt_of_block h.rb
  have hCl := h.cb.lt
  have hRC : a.R ≠ a.C := CH.blk_ne h.rb h.cb (by decide)
  have HB0 : Hid (Below w.heap.size w (w.alloc (.cells #[.int .i64 m.k, .int .i64 m.se, .int .i64 m.nu, .int .i64 m.jo, .int .i64 m.ba, .int .i64 m.ix, .int .i64 m.co, .int .i64 m.rc, .int .u64 (m.rb : Int), .string m.tx, .string m.pr] 67)).drew) := hide (CH.below_drew (CH.below_alloc w _))
  have HX0 : Hid (Hx a pj w.heap.size m (w.alloc (.cells #[.int .i64 m.k, .int .i64 m.se, .int .i64 m.nu, .int .i64 m.jo, .int .i64 m.ba, .int .i64 m.ix, .int .i64 m.co, .int .i64 m.rc, .int .u64 (m.rb : Int), .string m.tx, .string m.pr] 67)).drew) := hide ⟨(HB0.out.cell (p := ⟨a.R, 5, none⟩) hlt).trans c5, (HB0.out.cell (p := ⟨a.R, 6, none⟩) hlt).trans c6, heap_alloc_new w (.cells #[.int .i64 m.k, .int .i64 m.se, .int .i64 m.nu, .int .i64 m.jo, .int .i64 m.ba, .int .i64 m.ix, .int .i64 m.co, .int .i64 m.rc, .int .u64 (m.rb : Int), .string m.tx, .string m.pr] 67)⟩
  clear h hk hp0 hp1 hp2 c5 c6
  go_enter Tryz.func104, Tryz.ntmps104
  go_upto_region 1 with fail
  obtain ⟨V0, hV0⟩ : ∃ V0, w.alloc (.cells #[.int .i64 m.k, .int .i64 m.se, .int .i64 m.nu, .int .i64 m.jo, .int .i64 m.ba, .int .i64 m.ix, .int .i64 m.co, .int .i64 m.rc, .int .u64 (m.rb : Int), .string m.tx, .string m.pr] 67) = V0 := ⟨_, rfl⟩
  rw [hV0] at HB0 HX0 ⊢
  clear hV0
  refine wp_region_held_drew (S := fun V => Hx a pj w.heap.size m V) (by kernel_rfl) (HX0.out) (fun hHeld => ?_)
  refine wpAnyH_take (i := 0) (v := .pointer (some ⟨a.R, 0, none⟩)) rfl (by kernel_rfl) (by kernel_rfl) (by kernel_rfl) (fun _ _ _ h => h) (Or.inl ⟨by kernel_rfl, fun w1 hSw => by clear hHeld; have k5 := hSw.c5; have k6 := hSw.c6; obtain ⟨q0, q1, q2, q3, q4, q5, q6, q7, q8, q9, q10⟩ := msg_cells hSw.mg; go_simp⟩) hHeld ?_
  try simp only [Act.put]
  try simp only [List.getElem_toArray]
  try simp only [List.getElem_cons_succ]
  try simp only [List.getElem_cons_zero]
  try simp only [List.setIfInBounds_toArray]
  try simp only [List.set_cons_succ, List.set_cons_zero]
  refine wpAnyH_take (i := 1) (v := .pointer (some ⟨a.R, 0, none⟩)) rfl (by kernel_rfl) (by kernel_rfl) (by kernel_rfl) (fun _ _ _ h => h) (Or.inl ⟨by kernel_rfl, fun w1 hSw => by clear hHeld; have k5 := hSw.c5; have k6 := hSw.c6; obtain ⟨q0, q1, q2, q3, q4, q5, q6, q7, q8, q9, q10⟩ := msg_cells hSw.mg; go_simp⟩) hHeld ?_
  try simp only [Act.put]
  try simp only [List.getElem_toArray]
  try simp only [List.getElem_cons_succ]
  try simp only [List.getElem_cons_zero]
  try simp only [List.setIfInBounds_toArray]
  try simp only [List.set_cons_succ, List.set_cons_zero]
  refine wpAnyH_take (i := 2) (v := .pointer (some ⟨a.R, 5, none⟩)) rfl (by kernel_rfl) (by kernel_rfl) (by kernel_rfl) (fun _ _ _ h => h) (Or.inl ⟨by kernel_rfl, fun w1 hSw => by clear hHeld; have k5 := hSw.c5; have k6 := hSw.c6; obtain ⟨q0, q1, q2, q3, q4, q5, q6, q7, q8, q9, q10⟩ := msg_cells hSw.mg; go_simp⟩) hHeld ?_
  try simp only [Act.put]
  try simp only [List.getElem_toArray]
  try simp only [List.getElem_cons_succ]
  try simp only [List.getElem_cons_zero]
  try simp only [List.setIfInBounds_toArray]
  try simp only [List.set_cons_succ, List.set_cons_zero]
  refine wpAnyH_take (i := 3) (v := .pointer (some ⟨a.C, 0, none⟩)) rfl (by kernel_rfl) (by kernel_rfl) (by kernel_rfl) (fun _ _ _ h => h) (Or.inl ⟨by kernel_rfl, fun w1 hSw => by clear hHeld; have k5 := hSw.c5; have k6 := hSw.c6; obtain ⟨q0, q1, q2, q3, q4, q5, q6, q7, q8, q9, q10⟩ := msg_cells hSw.mg; go_simp⟩) hHeld ?_
  try simp only [Act.put]
  try simp only [List.getElem_toArray]
  try simp only [List.getElem_cons_succ]
  try simp only [List.getElem_cons_zero]
  try simp only [List.setIfInBounds_toArray]
  try simp only [List.set_cons_succ, List.set_cons_zero]
  refine wpAnyH_take (i := 4) (v := .agg #[.int .i64 m.k, .int .i64 m.se, .int .i64 m.nu, .int .i64 m.jo, .int .i64 m.ba, .int .i64 m.ix, .int .i64 m.co, .int .i64 m.rc, .int .u64 (m.rb : Int), .string m.tx, .string m.pr]) rfl (by kernel_rfl) (by kernel_rfl) (by kernel_rfl) (fun _ _ _ h => h) (Or.inl ⟨by kernel_rfl, fun w1 hSw => by clear hHeld; have k5 := hSw.c5; have k6 := hSw.c6; obtain ⟨q0, q1, q2, q3, q4, q5, q6, q7, q8, q9, q10⟩ := msg_cells hSw.mg; go_simp⟩) hHeld ?_
  try simp only [Act.put]
  try simp only [List.getElem_toArray]
  try simp only [List.getElem_cons_succ]
  try simp only [List.getElem_cons_zero]
  try simp only [List.setIfInBounds_toArray]
  try simp only [List.set_cons_succ, List.set_cons_zero]
  refine wpAnyH_ready (rs := [5]) (by kernel_rfl) (by simp) ?_
  refine AllReadyH.cons rfl (fun K hK => ?_) AllReadyH.nil
  go_simp
  refine (HHr.out _ HB0.out).mono ?_
  rintro e V2 ⟨rfl, hc, ho⟩
  have HS2 := hide ((St.call (HH.out.below HB0.out) ho hc).pre HB0.out)
  have HX2 : Hid (Hx a pj w.heap.size m V2) := hide ⟨(World.cell?_of_block (a := ⟨a.R, 5, none⟩) (ho.block a.R (by have := HB0.out.size; omega) hRC)).trans HX0.out.c5, (World.cell?_of_block (a := ⟨a.R, 6, none⟩) (ho.block a.R (by have := HB0.out.size; omega) hRC)).trans HX0.out.c6, (ho.block w.heap.size (lt_of_block HX0.out.mg) (by omega)).trans HX0.out.mg⟩
  clear hc ho
  refine hK.out _ _ (HX2.out) (fun hHeld => ?_)
  clear hK K
  try simp only [Act.put]
  try simp only [List.getElem_toArray]
  try simp only [List.getElem_cons_succ]
  try simp only [List.getElem_cons_zero]
  try simp only [List.setIfInBounds_toArray]
  try simp only [List.set_cons_succ, List.set_cons_zero]
  refine wpAnyH_done (by kernel_rfl) ?_ _
  go_wp2_with fail
  go_end0
  exact ⟨rfl, HS2.out⟩
/-- what is dismissed -/
def Rn.dism (r : Rn) (m : W.Wr.Ms) : Rn := if ((r.c.hear (smOf m)).e == 3) = true then { r with c := (r.c.hear (smOf m)).c, j := none } else { r with c := (r.c.hear (smOf m)).c }
set_option maxHeartbeats 4000000 in
theorem dismissed_any (h : Rm w a r) (hk : r.ok) (m : W.Wr.Ms) :
    Calls Tryz.prog 106 #[.pointer (some ⟨a.R, 0, none⟩), .agg (W.msgC m)] w fun e w' => e = .returned (.tuple #[]) ∧ St w a r w' a (r.dism m) := by
  cases te : ((r.c.hear (smOf m)).e == 3) with
  | true =>
    have HE : Hid (r.dism m = { r with c := (r.c.hear (smOf m)).c, j := none }) := hide (if_pos te)
    have HHr := hide (fun (V : World) (hb : Below w.heap.size w V) => SE.hear_any hk.c (h.below hb).cb (smOf m))
    rw [smOf_c] at HHr
    unfold W.msgC at HHr ⊢
    have HH := hide h
    obtain ⟨pj, hp0, hp1, hp2⟩ := jp_ptr a.ja r.j
    have c5 := h.c5
    have c6 := h.c6
    rw [hp0] at c6
    have hlt := lt_of_block h.rb
    have hCl := h.cb.lt
    have hRC : a.R ≠ a.C := CH.blk_ne h.rb h.cb (by decide)
    have HB0 : Hid (Below w.heap.size w (w.alloc (.cells #[.int .i64 m.k, .int .i64 m.se, .int .i64 m.nu, .int .i64 m.jo, .int .i64 m.ba, .int .i64 m.ix, .int .i64 m.co, .int .i64 m.rc, .int .u64 (m.rb : Int), .string m.tx, .string m.pr] 67)).drew) := hide (CH.below_drew (CH.below_alloc w _))
    have HX0 : Hid (Hx a pj w.heap.size m (w.alloc (.cells #[.int .i64 m.k, .int .i64 m.se, .int .i64 m.nu, .int .i64 m.jo, .int .i64 m.ba, .int .i64 m.ix, .int .i64 m.co, .int .i64 m.rc, .int .u64 (m.rb : Int), .string m.tx, .string m.pr] 67)).drew) := hide ⟨(HB0.out.cell (p := ⟨a.R, 5, none⟩) hlt).trans c5, (HB0.out.cell (p := ⟨a.R, 6, none⟩) hlt).trans c6, heap_alloc_new w (.cells #[.int .i64 m.k, .int .i64 m.se, .int .i64 m.nu, .int .i64 m.jo, .int .i64 m.ba, .int .i64 m.ix, .int .i64 m.co, .int .i64 m.rc, .int .u64 (m.rb : Int), .string m.tx, .string m.pr] 67)⟩
    clear h hk hp0 hp1 hp2 c5 c6
    go_enter Tryz.func106, Tryz.ntmps106
    go_upto_region 1 with fail
    obtain ⟨V0, hV0⟩ : ∃ V0, w.alloc (.cells #[.int .i64 m.k, .int .i64 m.se, .int .i64 m.nu, .int .i64 m.jo, .int .i64 m.ba, .int .i64 m.ix, .int .i64 m.co, .int .i64 m.rc, .int .u64 (m.rb : Int), .string m.tx, .string m.pr] 67) = V0 := ⟨_, rfl⟩
    rw [hV0] at HB0 HX0 ⊢
    clear hV0
    refine wp_region_held_drew (S := fun V => Hx a pj w.heap.size m V) (by kernel_rfl) (HX0.out) (fun hHeld => ?_)
    refine wpAnyH_take (i := 0) (v := .pointer (some ⟨a.R, 0, none⟩)) rfl (by kernel_rfl) (by kernel_rfl) (by kernel_rfl) (fun _ _ _ h => h) (Or.inl ⟨by kernel_rfl, fun w1 hSw => by clear hHeld; have k5 := hSw.c5; have k6 := hSw.c6; obtain ⟨q0, q1, q2, q3, q4, q5, q6, q7, q8, q9, q10⟩ := msg_cells hSw.mg; go_simp⟩) hHeld ?_
    try simp only [Act.put]
    try simp only [List.getElem_toArray]
    try simp only [List.getElem_cons_succ]
    try simp only [List.getElem_cons_zero]
    try simp only [List.setIfInBounds_toArray]
    try simp only [List.set_cons_succ, List.set_cons_zero]
    refine wpAnyH_take (i := 1) (v := .pointer (some ⟨a.R, 0, none⟩)) rfl (by kernel_rfl) (by kernel_rfl) (by kernel_rfl) (fun _ _ _ h => h) (Or.inl ⟨by kernel_rfl, fun w1 hSw => by clear hHeld; have k5 := hSw.c5; have k6 := hSw.c6; obtain ⟨q0, q1, q2, q3, q4, q5, q6, q7, q8, q9, q10⟩ := msg_cells hSw.mg; go_simp⟩) hHeld ?_
    try simp only [Act.put]
    try simp only [List.getElem_toArray]
    try simp only [List.getElem_cons_succ]
    try simp only [List.getElem_cons_zero]
    try simp only [List.setIfInBounds_toArray]
    try simp only [List.set_cons_succ, List.set_cons_zero]
    refine wpAnyH_take (i := 2) (v := .pointer (some ⟨a.R, 5, none⟩)) rfl (by kernel_rfl) (by kernel_rfl) (by kernel_rfl) (fun _ _ _ h => h) (Or.inl ⟨by kernel_rfl, fun w1 hSw => by clear hHeld; have k5 := hSw.c5; have k6 := hSw.c6; obtain ⟨q0, q1, q2, q3, q4, q5, q6, q7, q8, q9, q10⟩ := msg_cells hSw.mg; go_simp⟩) hHeld ?_
    try simp only [Act.put]
    try simp only [List.getElem_toArray]
    try simp only [List.getElem_cons_succ]
    try simp only [List.getElem_cons_zero]
    try simp only [List.setIfInBounds_toArray]
    try simp only [List.set_cons_succ, List.set_cons_zero]
    refine wpAnyH_take (i := 3) (v := .pointer (some ⟨a.C, 0, none⟩)) rfl (by kernel_rfl) (by kernel_rfl) (by kernel_rfl) (fun _ _ _ h => h) (Or.inl ⟨by kernel_rfl, fun w1 hSw => by clear hHeld; have k5 := hSw.c5; have k6 := hSw.c6; obtain ⟨q0, q1, q2, q3, q4, q5, q6, q7, q8, q9, q10⟩ := msg_cells hSw.mg; go_simp⟩) hHeld ?_
    try simp only [Act.put]
    try simp only [List.getElem_toArray]
    try simp only [List.getElem_cons_succ]
    try simp only [List.getElem_cons_zero]
    try simp only [List.setIfInBounds_toArray]
    try simp only [List.set_cons_succ, List.set_cons_zero]
    refine wpAnyH_take (i := 4) (v := .agg #[.int .i64 m.k, .int .i64 m.se, .int .i64 m.nu, .int .i64 m.jo, .int .i64 m.ba, .int .i64 m.ix, .int .i64 m.co, .int .i64 m.rc, .int .u64 (m.rb : Int), .string m.tx, .string m.pr]) rfl (by kernel_rfl) (by kernel_rfl) (by kernel_rfl) (fun _ _ _ h => h) (Or.inl ⟨by kernel_rfl, fun w1 hSw => by clear hHeld; have k5 := hSw.c5; have k6 := hSw.c6; obtain ⟨q0, q1, q2, q3, q4, q5, q6, q7, q8, q9, q10⟩ := msg_cells hSw.mg; go_simp⟩) hHeld ?_
    try simp only [Act.put]
    try simp only [List.getElem_toArray]
    try simp only [List.getElem_cons_succ]
    try simp only [List.getElem_cons_zero]
    try simp only [List.setIfInBounds_toArray]
    try simp only [List.set_cons_succ, List.set_cons_zero]
    refine wpAnyH_ready (rs := [5]) (by kernel_rfl) (by simp) ?_
    refine AllReadyH.cons rfl (fun K hK => ?_) AllReadyH.nil
    go_simp
    refine (HHr.out _ HB0.out).mono ?_
    rintro e V2 ⟨rfl, hc, ho⟩
    have HS2 := hide ((St.call (HH.out.below HB0.out) ho hc).pre HB0.out)
    have HX2 : Hid (Hx a pj w.heap.size m V2) := hide ⟨(World.cell?_of_block (a := ⟨a.R, 5, none⟩) (ho.block a.R (by have := HB0.out.size; omega) hRC)).trans HX0.out.c5, (World.cell?_of_block (a := ⟨a.R, 6, none⟩) (ho.block a.R (by have := HB0.out.size; omega) hRC)).trans HX0.out.c6, (ho.block w.heap.size (lt_of_block HX0.out.mg) (by omega)).trans HX0.out.mg⟩
    clear hc ho
    refine hK.out _ _ (HX2.out) (fun hHeld => ?_)
    clear hK K
    try simp only [Act.put]
    try simp only [List.getElem_toArray]
    try simp only [List.getElem_cons_succ]
    try simp only [List.getElem_cons_zero]
    try simp only [List.setIfInBounds_toArray]
    try simp only [List.set_cons_succ, List.set_cons_zero]
    refine wpAnyH_take (i := 6) (v := .bool true) rfl (by kernel_rfl) (by kernel_rfl) (by kernel_rfl) (fun _ _ _ h => h) (Or.inl ⟨by kernel_rfl, fun w1 hSw => by clear hHeld; have k5 := hSw.c5; have k6 := hSw.c6; obtain ⟨q0, q1, q2, q3, q4, q5, q6, q7, q8, q9, q10⟩ := msg_cells hSw.mg; go_simp⟩) hHeld ?_
    try simp only [Act.put]
    try simp only [List.getElem_toArray]
    try simp only [List.getElem_cons_succ]
    try simp only [List.getElem_cons_zero]
    try simp only [List.setIfInBounds_toArray]
    try simp only [List.set_cons_succ, List.set_cons_zero]
    refine wpAnyH_done (by kernel_rfl) ?_ _
    have z6 := HS2.out.rm.z 6
    have d6 := HS2.out.rm.c6
    obtain ⟨pk, hpk, _, _⟩ := jp_ptr a.ja r.j
    replace d6 : V2.cell? ⟨a.R, 6, none⟩ = some (jp a.ja r.j) := d6
    rw [hpk] at d6
    have hR2 := lt_of_block HS2.out.rm.rb
    have HS3 := hide (HS2.out.trans (St.drop HS2.out.rm))
    clear hpk
    go_wp2_with fail
    go_end0
    exact ⟨rfl, by rw [HE.out]; exact HS3.out⟩
  | false =>
    have HE : Hid (r.dism m = { r with c := (r.c.hear (smOf m)).c }) := hide (if_neg (by rw [te]; decide))
    have HHr := hide (fun (V : World) (hb : Below w.heap.size w V) => SE.hear_any hk.c (h.below hb).cb (smOf m))
    rw [smOf_c] at HHr
    unfold W.msgC at HHr ⊢
    have HH := hide h
    obtain ⟨pj, hp0, hp1, hp2⟩ := jp_ptr a.ja r.j
    have c5 := h.c5
    have c6 := h.c6
    rw [hp0] at c6
    have hlt := lt_of_block h.rb
    have hCl := h.cb.lt
    have hRC : a.R ≠ a.C := CH.blk_ne h.rb h.cb (by decide)
    have HB0 : Hid (Below w.heap.size w (w.alloc (.cells #[.int .i64 m.k, .int .i64 m.se, .int .i64 m.nu, .int .i64 m.jo, .int .i64 m.ba, .int .i64 m.ix, .int .i64 m.co, .int .i64 m.rc, .int .u64 (m.rb : Int), .string m.tx, .string m.pr] 67)).drew) := hide (CH.below_drew (CH.below_alloc w _))
    have HX0 : Hid (Hx a pj w.heap.size m (w.alloc (.cells #[.int .i64 m.k, .int .i64 m.se, .int .i64 m.nu, .int .i64 m.jo, .int .i64 m.ba, .int .i64 m.ix, .int .i64 m.co, .int .i64 m.rc, .int .u64 (m.rb : Int), .string m.tx, .string m.pr] 67)).drew) := hide ⟨(HB0.out.cell (p := ⟨a.R, 5, none⟩) hlt).trans c5, (HB0.out.cell (p := ⟨a.R, 6, none⟩) hlt).trans c6, heap_alloc_new w (.cells #[.int .i64 m.k, .int .i64 m.se, .int .i64 m.nu, .int .i64 m.jo, .int .i64 m.ba, .int .i64 m.ix, .int .i64 m.co, .int .i64 m.rc, .int .u64 (m.rb : Int), .string m.tx, .string m.pr] 67)⟩
    clear h hk hp0 hp1 hp2 c5 c6
    go_enter Tryz.func106, Tryz.ntmps106
    go_upto_region 1 with fail
    obtain ⟨V0, hV0⟩ : ∃ V0, w.alloc (.cells #[.int .i64 m.k, .int .i64 m.se, .int .i64 m.nu, .int .i64 m.jo, .int .i64 m.ba, .int .i64 m.ix, .int .i64 m.co, .int .i64 m.rc, .int .u64 (m.rb : Int), .string m.tx, .string m.pr] 67) = V0 := ⟨_, rfl⟩
    rw [hV0] at HB0 HX0 ⊢
    clear hV0
    refine wp_region_held_drew (S := fun V => Hx a pj w.heap.size m V) (by kernel_rfl) (HX0.out) (fun hHeld => ?_)
    refine wpAnyH_take (i := 0) (v := .pointer (some ⟨a.R, 0, none⟩)) rfl (by kernel_rfl) (by kernel_rfl) (by kernel_rfl) (fun _ _ _ h => h) (Or.inl ⟨by kernel_rfl, fun w1 hSw => by clear hHeld; have k5 := hSw.c5; have k6 := hSw.c6; obtain ⟨q0, q1, q2, q3, q4, q5, q6, q7, q8, q9, q10⟩ := msg_cells hSw.mg; go_simp⟩) hHeld ?_
    try simp only [Act.put]
    try simp only [List.getElem_toArray]
    try simp only [List.getElem_cons_succ]
    try simp only [List.getElem_cons_zero]
    try simp only [List.setIfInBounds_toArray]
    try simp only [List.set_cons_succ, List.set_cons_zero]
    refine wpAnyH_take (i := 1) (v := .pointer (some ⟨a.R, 0, none⟩)) rfl (by kernel_rfl) (by kernel_rfl) (by kernel_rfl) (fun _ _ _ h => h) (Or.inl ⟨by kernel_rfl, fun w1 hSw => by clear hHeld; have k5 := hSw.c5; have k6 := hSw.c6; obtain ⟨q0, q1, q2, q3, q4, q5, q6, q7, q8, q9, q10⟩ := msg_cells hSw.mg; go_simp⟩) hHeld ?_
    try simp only [Act.put]
    try simp only [List.getElem_toArray]
    try simp only [List.getElem_cons_succ]
    try simp only [List.getElem_cons_zero]
    try simp only [List.setIfInBounds_toArray]
    try simp only [List.set_cons_succ, List.set_cons_zero]
    refine wpAnyH_take (i := 2) (v := .pointer (some ⟨a.R, 5, none⟩)) rfl (by kernel_rfl) (by kernel_rfl) (by kernel_rfl) (fun _ _ _ h => h) (Or.inl ⟨by kernel_rfl, fun w1 hSw => by clear hHeld; have k5 := hSw.c5; have k6 := hSw.c6; obtain ⟨q0, q1, q2, q3, q4, q5, q6, q7, q8, q9, q10⟩ := msg_cells hSw.mg; go_simp⟩) hHeld ?_
    try simp only [Act.put]
    try simp only [List.getElem_toArray]
    try simp only [List.getElem_cons_succ]
    try simp only [List.getElem_cons_zero]
    try simp only [List.setIfInBounds_toArray]
    try simp only [List.set_cons_succ, List.set_cons_zero]
    refine wpAnyH_take (i := 3) (v := .pointer (some ⟨a.C, 0, none⟩)) rfl (by kernel_rfl) (by kernel_rfl) (by kernel_rfl) (fun _ _ _ h => h) (Or.inl ⟨by kernel_rfl, fun w1 hSw => by clear hHeld; have k5 := hSw.c5; have k6 := hSw.c6; obtain ⟨q0, q1, q2, q3, q4, q5, q6, q7, q8, q9, q10⟩ := msg_cells hSw.mg; go_simp⟩) hHeld ?_
    try simp only [Act.put]
    try simp only [List.getElem_toArray]
    try simp only [List.getElem_cons_succ]
    try simp only [List.getElem_cons_zero]
    try simp only [List.setIfInBounds_toArray]
    try simp only [List.set_cons_succ, List.set_cons_zero]
    refine wpAnyH_take (i := 4) (v := .agg #[.int .i64 m.k, .int .i64 m.se, .int .i64 m.nu, .int .i64 m.jo, .int .i64 m.ba, .int .i64 m.ix, .int .i64 m.co, .int .i64 m.rc, .int .u64 (m.rb : Int), .string m.tx, .string m.pr]) rfl (by kernel_rfl) (by kernel_rfl) (by kernel_rfl) (fun _ _ _ h => h) (Or.inl ⟨by kernel_rfl, fun w1 hSw => by clear hHeld; have k5 := hSw.c5; have k6 := hSw.c6; obtain ⟨q0, q1, q2, q3, q4, q5, q6, q7, q8, q9, q10⟩ := msg_cells hSw.mg; go_simp⟩) hHeld ?_
    try simp only [Act.put]
    try simp only [List.getElem_toArray]
    try simp only [List.getElem_cons_succ]
    try simp only [List.getElem_cons_zero]
    try simp only [List.setIfInBounds_toArray]
    try simp only [List.set_cons_succ, List.set_cons_zero]
    refine wpAnyH_ready (rs := [5]) (by kernel_rfl) (by simp) ?_
    refine AllReadyH.cons rfl (fun K hK => ?_) AllReadyH.nil
    go_simp
    refine (HHr.out _ HB0.out).mono ?_
    rintro e V2 ⟨rfl, hc, ho⟩
    have HS2 := hide ((St.call (HH.out.below HB0.out) ho hc).pre HB0.out)
    have HX2 : Hid (Hx a pj w.heap.size m V2) := hide ⟨(World.cell?_of_block (a := ⟨a.R, 5, none⟩) (ho.block a.R (by have := HB0.out.size; omega) hRC)).trans HX0.out.c5, (World.cell?_of_block (a := ⟨a.R, 6, none⟩) (ho.block a.R (by have := HB0.out.size; omega) hRC)).trans HX0.out.c6, (ho.block w.heap.size (lt_of_block HX0.out.mg) (by omega)).trans HX0.out.mg⟩
    clear hc ho
    refine hK.out _ _ (HX2.out) (fun hHeld => ?_)
    clear hK K
    try simp only [Act.put]
    try simp only [List.getElem_toArray]
    try simp only [List.getElem_cons_succ]
    try simp only [List.getElem_cons_zero]
    try simp only [List.setIfInBounds_toArray]
    try simp only [List.set_cons_succ, List.set_cons_zero]
    refine wpAnyH_take (i := 6) (v := .bool false) rfl (by kernel_rfl) (by kernel_rfl) (by kernel_rfl) (fun _ _ _ h => h) (Or.inl ⟨by kernel_rfl, fun w1 hSw => by clear hHeld; have k5 := hSw.c5; have k6 := hSw.c6; obtain ⟨q0, q1, q2, q3, q4, q5, q6, q7, q8, q9, q10⟩ := msg_cells hSw.mg; go_simp⟩) hHeld ?_
    try simp only [Act.put]
    try simp only [List.getElem_toArray]
    try simp only [List.getElem_cons_succ]
    try simp only [List.getElem_cons_zero]
    try simp only [List.setIfInBounds_toArray]
    try simp only [List.set_cons_succ, List.set_cons_zero]
    refine wpAnyH_done (by kernel_rfl) ?_ _
    go_wp2_with fail
    go_end0
    exact ⟨rfl, by rw [HE.out]; exact HS2.out⟩
end
end Go.Proofs.YtkfnedhllfdghaaGreatDoor.RN
end
