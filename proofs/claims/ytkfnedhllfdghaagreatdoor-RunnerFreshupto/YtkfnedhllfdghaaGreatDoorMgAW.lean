import Derived.Test.YtkfnedhllfdghaaGreatDoorMgAV

section
namespace Go.Proofs.YtkfnedhllfdghaaGreatDoor
set_option maxRecDepth 20000
open Go.RowKit Go.Shelf

/-- a machine's own code: it lies elsewhere -/
structure Cdn (w : World) (v : Value) (xs : List In) (B : Nat) : Prop where
  form : ∃ b off cap, v = .slice (some ⟨b, off, none⟩) xs.length cap ∧ b < w.heap.size ∧ b ≠ B ∧ ∀ j, j < xs.length → ∀ i u, (xs[j]!).cs[i]? = some u → w.cell? ⟨b, off + j * 6 + i, none⟩ = some u
theorem Cdn.grown {w w' : World} {v : Value} {xs : List In} {B : Nat} (h : Cdn w v xs B) (g : w.grownBy w' (some B)) : Cdn w' v xs B := by
  obtain ⟨b, off, cap, hv, hb, hn, hc⟩ := h
  exact ⟨b, off, cap, hv, Nat.lt_of_lt_of_le hb g.size, hn, fun j hj i u hi => g.cell (hc j hj i u hi) (by simp; omega)⟩
theorem res2 {fn : Func} (h : fn.results = #[.cell 2 207, .tmp 3]) (tmps : Array Value) (w : World) (Y : Nat) (k t e : Value) (hp : tmps.getD 2 undef = .pointer (some ⟨Y, 0, none⟩)) (he : tmps.getD 3 undef = e)
    (hY : w.heap[Y]? = some (.cells #[k, t] 207 (0, 0))) : (results fn tmps).run Tryz.prog w = .ok (.tuple #[.agg #[k, t], e]) w := by
  rw [results_cell_tmp h, hp, he]
  simp [asAddr, run_loadVar_row w Y 207 207 #[k, t] (0, 0) _ hY Tryz.underlying207 rfl (by kernel_rfl)]
set_option maxRecDepth 20000 in
set_option maxHeartbeats 2000000 in
theorem step_over {w : World} {B fuel : Nat} {m : Mc} {v : Value} (h : Mb w B m v fuel) (ho : m.ov = true) :
    Calls Tryz.prog 125 #[.pointer (some ⟨B, 0, none⟩)] w fun e w' => e = .returned (.tuple #[.agg #[.int .i64 0, .string ⟨#[]⟩], .int .i64 60]) ∧ Below w.heap.size w w' := by
  have c32 := h.cell (h.l8.g_ov v fuel)
  rw [ho] at c32
  have hlt := h.lt
  go_enter_defers Tryz.func125, Tryz.ntmps125
  go_wp2_with fail
  exact ⟨_, res2 rfl _ _ (w.heap.size + 1) (.int .i64 0) (.string ⟨#[]⟩) (.int .i64 60) rfl rfl (by have q := heap_alloc_new (w.alloc (.cells #[.pointer (some ⟨B, 0, none⟩)] 123)) (.cells #[.int .i64 0, .string ⟨#[]⟩] 207); rw [World.size_alloc] at q; exact q), rfl, (below_one w _).trans ((below_one _ _).mono (by simp))⟩
/-- the world with a step's boxes -/
abbrev W3 (w : World) (B : Nat) (pl : Nat) : World := ((w.alloc (.cells #[.pointer (some ⟨B, 0, none⟩)] 123)).alloc (.cells #[.int .i64 0, .string ⟨#[]⟩] 207)).alloc (.cells #[.int .i64 (pl : Int)] 3)
structure W3F (w w5 : World) (B pl : Nat) (m : Mc) (v : Value) (fuel : Nat) (kv tv : Value) : Prop where
  x : w5.cell? ⟨w.heap.size, 0, none⟩ = some (.pointer (some ⟨B, 0, none⟩))
  z : w5.cell? ⟨w.heap.size + 1 + 1, 0, none⟩ = some (.int .i64 (pl : Int))
  a : w5.heap[w.heap.size + 1]? = some (.cells #[kv, tv] 207 (0, 0))
  mb : Mb w5 B m v fuel
  gr : w.grownBy w5 (some B)
theorem w3f {w w' : World} {B pl fuel : Nat} {m : Mc} {v : Value} (h : Mb w' B m v fuel) (hs : w'.heap.size = w.heap.size) (g : w.grownBy w' (some B)) : W3F w (W3 w' B pl) B pl m v fuel (.int .i64 0) (.string ⟨#[]⟩) := by
  have g2 : Below w'.heap.size w' (W3 w' B pl) := ((below_one w' _).trans ((below_one _ _).mono (by simp))).trans ((below_one _ _).mono (by simp; omega))
  have b0 : (W3 w' B pl).heap[w.heap.size]? = some (.cells #[.pointer (some ⟨B, 0, none⟩)] 123 (0, 0)) := (heap_alloc_old _ _ (by simp [hs]; omega)).trans ((heap_alloc_old _ _ (by simp [hs])).trans (by rw [← hs]; exact heap_alloc_new w' _))
  have b1 : (W3 w' B pl).heap[w.heap.size + 1]? = some (.cells #[.int .i64 0, .string ⟨#[]⟩] 207 (0, 0)) := (heap_alloc_old _ _ (by simp [hs])).trans (by have q := heap_alloc_new (w'.alloc (.cells #[.pointer (some ⟨B, 0, none⟩)] 123)) (.cells #[.int .i64 0, .string ⟨#[]⟩] 207); rw [World.size_alloc, hs] at q; exact q)
  have b2 : (W3 w' B pl).heap[w.heap.size + 1 + 1]? = some (.cells #[.int .i64 (pl : Int)] 3 (0, 0)) := by have q := heap_alloc_new ((w'.alloc (.cells #[.pointer (some ⟨B, 0, none⟩)] 123)).alloc (.cells #[.int .i64 0, .string ⟨#[]⟩] 207)) (.cells #[.int .i64 (pl : Int)] 3); rw [World.size_alloc, World.size_alloc, hs] at q; exact q
  exact ⟨by simp [World.cell?, b0], by simp [World.cell?, b2], b1, h.below g2 h.lt, i_grown_trans g (i_grown_below g2 _)⟩
theorem W3F.grow {w w5 w6 : World} {B pl fuel : Nat} {m m' : Mc} {v kv tv : Value} (h : W3F w w5 B pl m v fuel kv tv) (hB : B < w.heap.size) (g : w5.grownBy w6 (some B)) (hm : Mb w6 B m' v fuel) : W3F w w6 B pl m' v fuel kv tv :=
  ⟨g.cell h.x (by simp; omega), g.cell h.z (by simp; omega), (g.block _ (lt_of_block h.a) (by simp; omega)).trans h.a, hm, i_grown_trans h.gr g⟩
theorem W3F.set {w w5 : World} {B pl fuel : Nat} {m m' : Mc} {v kv tv : Value} (h : W3F w w5 B pl m v fuel kv tv) (hB : B < w.heap.size) {i : Nat} {u : Value} (he : (m.vs v fuel).set i u = m'.vs v fuel) (l8 : m'.L8) : W3F w (w5.setCell ⟨B, i, none⟩ u) B pl m' v fuel kv tv :=
  h.grow hB (i_grown_set _ _ _ _) (h.mb.set he l8)
theorem W3F.act {w w5 : World} {B pl fuel : Nat} {m : Mc} {v kv tv : Value} (h : W3F w w5 B pl m v fuel kv tv) : w5.cell? ⟨w.heap.size + 1, 0, none⟩ = some kv ∧ w5.cell? ⟨w.heap.size + 1, 1, none⟩ = some tv ∧ ∀ i, w5.frozen? ⟨w.heap.size + 1, i, none⟩ = false :=
  ⟨by simp [World.cell?, h.a], by simp [World.cell?, h.a], fun i => by simp [World.frozen?, h.a]⟩
theorem W3F.tell {w w5 : World} {B pl fuel : Nat} {m : Mc} {v kv tv : Value} (h : W3F w w5 B pl m v fuel kv tv) (hB : B < w.heap.size) (k t : Value) : W3F w ((w5.setCell ⟨w.heap.size + 1, 0, none⟩ k).setCell ⟨w.heap.size + 1, 1, none⟩ t) B pl m v fuel k t := by
  have g2 := i_grown_trans (i_grown_set w5 (w.heap.size + 1) 0 k) (i_grown_set _ (w.heap.size + 1) 1 t)
  refine ⟨g2.cell h.x (by simp), g2.cell h.z (by simp), two_set h.a k t, h.mb.grown g2 (by simp; omega), ?_⟩
  exact ⟨h.gr.os, h.gr.tape, h.gr.output, Nat.le_trans h.gr.size g2.size, fun i hi hn => (g2.block i (Nat.lt_of_lt_of_le hi h.gr.size) (by simp; omega)).trans (h.gr.block i hi hn)⟩
theorem leaves_same {P : Program} {fn : Func} {R : Ending → World → Prop} {t1 t2 : Array Value} {p u : Tmp} {ty : TypeId} (hr : fn.results = #[.cell p ty, .tmp u]) (hp : t1.getD p undef = t2.getD p undef) (hu : t1.getD u undef = t2.getD u undef) :
    ∀ (ds : List Deferred) (md : FrameMode) (w : World), Leaves P fn t1 R ds md w → Leaves P fn t2 R ds md w
  | [], .returning, w, h => by
    obtain ⟨v, h1, h2⟩ := h
    refine ⟨v, ?_, h2⟩
    rw [results_cell_tmp hr] at h1 ⊢
    rw [← hp, ← hu]
    exact h1
  | [], .panicking _, _, h => h
  | [], .run, _, h => h
  | d :: ds, md, w, h => by
    obtain ⟨h0, fv, cap, f, args, h1, h2, h3⟩ := h
    refine ⟨h0, fv, cap, f, args, h1, h2, h3.mono ?_⟩
    intro e u' w' he
    cases e with
    | returned _ => exact leaves_same hr hp hu ds _ _ he
    | panicked _ => exact leaves_same hr hp hu ds _ _ he
    | outgrown => exact he
theorem put_other {a : Act} {d p : Nat} {v : Value} (h : d ≠ p) : (a.put (some d) v).tmps.getD p undef = a.tmps.getD p undef := by
  show (a.tmps.setIfInBounds d v).getD p undef = _
  simp [Array.getElem?_setIfInBounds_ne h]
/-- an instruction that traps changes nothing -/
theorem doM_same (m : Mc) (x : In) (many : Nat) : (Im.doM m x many).1 ≠ 0 → (Im.doM m x many).2 = (m, 0, ByteArray.empty) := by
  refine doM_ind (P := fun d => d.1 ≠ 0 → d.2 = (m, 0, ByteArray.empty)) m x many ?_ ?_ ?_ ?_ ?_ ?_ ?_ ?_ ?_ ?_ ?_ ?_ ?_ ?_ ?_ ?_ ?_ ?_ ?_ ?_
  all_goals exact fun _ h => (by first | rfl | exact absurd rfl h)
set_option maxRecDepth 20000 in
set_option maxHeartbeats 2000000 in
theorem step_live {w : World} {B fuel : Nat} {m : Mc} {v : Value} {xs : List In} (h : Mb w B m v fuel) (ho : m.ov = false) (hk : m.Ok xs.length fuel) (hg : ∀ x ∈ xs, x.Good xs.length) (hC : Cdn w v xs B) (hE : Env w B) (hm : xs.length < 1000000) (hf : fuel < 1000000) :
    Calls Tryz.prog 125 #[.pointer (some ⟨B, 0, none⟩)] w fun e w' => e = .returned (.tuple #[.agg #[.int .i64 ((Im.stp xs fuel m).2.1 : Int), .string (Im.stp xs fuel m).2.2], .int .i64 0]) ∧ Mb w' B (Im.stp xs fuel m).1 v fuel ∧ w.grownBy w' (some B) := by
  have hl := hk.live ho
  have c32 := h.cell (h.l8.g_ov v fuel)
  rw [ho] at c32
  have hlt := h.lt
  have c2 := h.cell (h.l8.g_pl v fuel)
  have c29 := h.cell (h.l8.g_dn v fuel)
  have z := h.z
  have hne0 : ¬ B = w.heap.size := by omega
  have hne1 : ¬ B = w.heap.size + 1 := by omega
  have hne2 : ¬ B = w.heap.size + 1 + 1 := by omega
  have E1 := w3f (pl := m.pl) h rfl (grown_none w 0 (some B))
  have E2 := E1.set hlt (h.l8.s_dn v fuel (m.dn + 1)) (h.l8.of rfl rfl rfl)
  have E3 := E2.set hlt (E2.mb.l8.s_pl v fuel (m.pl + 1)) (E2.mb.l8.of rfl rfl rfl)
  have a29 := E1.mb.cell (E1.mb.l8.g_dn v fuel)
  have az := E1.mb.z
  have b2 := E2.mb.cell (E2.mb.l8.g_pl v fuel)
  have bz := E2.mb.z
  have bx := E2.x
  have cx := E3.x
  have cz := E3.z
  have HE3 := hide E3
  clear E1 E2 E3
  rw [show (((m.dn + 1 : Nat)) : Int) = (m.dn : Int) + 1 by omega] at b2 bx cx cz HE3
  simp only [show (((m.dn + 1 : Nat)) : Int) = (m.dn : Int) + 1 by omega] at bz
  rw [show (((m.pl + 1 : Nat)) : Int) = (m.pl : Int) + 1 by omega] at cx cz HE3
  have HCd := hide (hC.grown HE3.out.gr)
  obtain ⟨cb, co, cap, rfl, hcb, hcn, hcc⟩ := hC
  clear hcc hcb hcn
  go_enter_defers Tryz.func125, Tryz.ntmps125
  go_wp2_with fail
  have HM : Hid (Im.ready m = { m with pl := m.pl + 1, dn := m.dn + 1 }) := (rfl : Im.ready m = _)
  rw [← HM.out] at HE3
  clear a29 az b2 bz bx c32 c2 c29 z
  generalize ((W3 w B m.pl).setCell ⟨B, 29, none⟩ (.int .i64 ((m.dn : Int) + 1))).setCell ⟨B, 2, none⟩ (.int .i64 ((m.pl : Int) + 1)) = w5 at *
  obtain ⟨cb', co', cap', hv', hcb, hcn, hcc⟩ := HCd.out
  injection hv' with e1 e2 e3
  injection e1 with e1
  injection e1 with e1 e4
  subst e1 e4 e3
  obtain ⟨x, hx⟩ : ∃ x, xs[m.pl]! = x := ⟨_, rfl⟩
  have hxg : x.Good xs.length := by rw [← hx, getElem!_pos xs m.pl hl.1]; exact hg _ (List.getElem_mem hl.1)
  have hcx := hcc m.pl hl.1
  rw [hx] at hcx
  have k0 := hcx 0 _ rfl
  have k1 := hcx 1 _ rfl
  have k2 := hcx 2 _ rfl
  have k3 := hcx 3 _ rfl
  have k4 := hcx 4 _ rfl
  have k5 := hcx 5 _ rfl
  simp only [Nat.add_zero] at k0
  clear hcx hcc
  have cv : w5.cell? ⟨B, 0, none⟩ = some (.slice (some ⟨cb, co, none⟩) xs.length cap) := HE3.out.mb.cell rfl
  have HD := hide (fun w1 (h1 : Mb w1 B (Im.ready m) (.slice (some ⟨cb, co, none⟩) xs.length cap) fuel) (g1 : w5.grownBy w1 (some B)) => do_any h1 (hE.grown (i_grown_trans HE3.out.gr g1)) (ready_fit hk ho) hxg)
  have hST : Im.stp xs fuel m = if (Im.doM (Im.ready m) x xs.length).1 = 0 then (Im.settle (Im.doM (Im.ready m) x xs.length).2.1 xs.length fuel, (Im.doM (Im.ready m) x xs.length).2.2) else (Im.trapped m (Im.doM (Im.ready m) x xs.length).1, 0, ByteArray.empty) := by unfold Im.stp; rw [hx]
  have HST := hide hST
  have hx2 : ∀ pl, m.pl = pl → xs[pl]! = x := fun pl e => by rw [← e]; exact hx
  have HFM := hide (doM_same (Im.ready m) x xs.length)
  clear hST hx hg hxg hE hk
  generalize Im.doM (Im.ready m) x xs.length = d at *
  obtain ⟨pl, hpl⟩ : ∃ pl, m.pl = pl := ⟨_, rfl⟩
  have hpi : (pl : Int) < (xs.length : Int) := by omega
  rw [hpl] at cz k0 k1 k2 k3 k4 k5 HE3 ⊢
  refine wp_region_but (S := (fun w' => w'.cell? ⟨w.heap.size, 0, none⟩ = some (.pointer (some ⟨B, 0, none⟩)) ∧ w'.cell? ⟨w.heap.size + 1 + 1, 0, none⟩ = some (.int .i64 (pl : Int)) ∧ w'.cell? ⟨B, 0, none⟩ = some (.slice (some ⟨cb, co, none⟩) xs.length cap) ∧ w'.cell? ⟨cb, co + pl * 6, none⟩ = some (.int .i64 x.op) ∧ w'.cell? ⟨cb, co + pl * 6 + 1, none⟩ = some (.int .i64 x.a) ∧ w'.cell? ⟨cb, co + pl * 6 + 2, none⟩ = some (.int .i64 x.b) ∧ w'.cell? ⟨cb, co + pl * 6 + 3, none⟩ = some (.int .i64 x.c) ∧ w'.cell? ⟨cb, co + pl * 6 + 4, none⟩ = some (.int .i64 x.n) ∧ w'.cell? ⟨cb, co + pl * 6 + 5, none⟩ = some (.int .u64 (x.k : Int)))) 9 (by kernel_rfl) ⟨cx, cz, cv, k0, k1, k2, k3, k4, k5⟩ (fun hH => ?_)
  refine anyBut_load (i := 0) (v := .pointer (some ⟨B, 0, none⟩)) rfl (by decide) (by kernel_rfl) (by kernel_rfl) (by kernel_rfl) (by kernel_rfl) (by kernel_rfl) (fun _ _ _ h => leaves_same rfl (put_other (by decide)) (put_other (by decide)) _ _ _ h) (Or.inl ⟨by kernel_rfl, fun w9 hS => by obtain ⟨s0, s1, s2, s3, s4, s5, s6, s7, s8⟩ := hS; go_simp⟩) hH ?_
  simp only [Act.put, List.setIfInBounds_toArray]
  refine anyBut_load (i := 1) (v := .pointer (some ⟨B, 0, none⟩)) rfl (by decide) (by kernel_rfl) (by kernel_rfl) (by kernel_rfl) (by kernel_rfl) (by kernel_rfl) (fun _ _ _ h => leaves_same rfl (put_other (by decide)) (put_other (by decide)) _ _ _ h) (Or.inl ⟨by kernel_rfl, fun w9 hS => by obtain ⟨s0, s1, s2, s3, s4, s5, s6, s7, s8⟩ := hS; go_simp⟩) hH ?_
  simp only [Act.put]
  refine anyBut_plain (i := 2) (v := .pointer (some ⟨B, 0, none⟩)) rfl (by decide) (by kernel_rfl) (by kernel_rfl) (by kernel_rfl) (fun _ _ _ h => leaves_same rfl (put_other (by decide)) (put_other (by decide)) _ _ _ h) (Or.inl ⟨by kernel_rfl, fun w9 _ => by kernel_rfl⟩) hH ?_
  simp only [Act.put]
  refine anyBut_plain (i := 3) (v := .pointer (some ⟨B, 0, none⟩)) rfl (by decide) (by kernel_rfl) (by kernel_rfl) (by kernel_rfl) (fun _ _ _ h => leaves_same rfl (put_other (by decide)) (put_other (by decide)) _ _ _ h) (Or.inl ⟨by kernel_rfl, fun w9 _ => by kernel_rfl⟩) hH ?_
  simp only [Act.put]
  refine anyBut_load (i := 4) (v := .slice (some ⟨cb, co, none⟩) xs.length cap) rfl (by decide) (by kernel_rfl) (by kernel_rfl) (by kernel_rfl) (by kernel_rfl) (by kernel_rfl) (fun _ _ _ h => leaves_same rfl (put_other (by decide)) (put_other (by decide)) _ _ _ h) (Or.inl ⟨by kernel_rfl, fun w9 hS => by obtain ⟨s0, s1, s2, s3, s4, s5, s6, s7, s8⟩ := hS; go_simp⟩) hH ?_
  simp only [Act.put]
  refine anyBut_load (i := 5) (v := .int .i64 (pl : Int)) rfl (by decide) (by kernel_rfl) (by kernel_rfl) (by kernel_rfl) (by kernel_rfl) (by kernel_rfl) (fun _ _ _ h => leaves_same rfl (put_other (by decide)) (put_other (by decide)) _ _ _ h) (Or.inl ⟨by kernel_rfl, fun w9 hS => by obtain ⟨s0, s1, s2, s3, s4, s5, s6, s7, s8⟩ := hS; go_simp⟩) hH ?_
  simp only [Act.put]
  refine anyBut_plain (i := 6) (v := .pointer (some ⟨cb, co + pl * 6, none⟩)) rfl (by decide) (by kernel_rfl) (by kernel_rfl) (by kernel_rfl) (fun _ _ _ h => leaves_same rfl (put_other (by decide)) (put_other (by decide)) _ _ _ h) (Or.inl ⟨by kernel_rfl, fun w9 _ => by go_simp⟩) hH ?_
  simp only [Act.put]
  refine anyBut_load (i := 7) (v := .agg #[.int .i64 x.op, .int .i64 x.a, .int .i64 x.b, .int .i64 x.c, .int .i64 x.n, .int .u64 (x.k : Int)]) rfl (by decide) (by kernel_rfl) (by kernel_rfl) (by kernel_rfl) (by kernel_rfl) (by kernel_rfl) (fun _ _ _ h => leaves_same rfl (put_other (by decide)) (put_other (by decide)) _ _ _ h) (Or.inl ⟨by kernel_rfl, fun w9 hS => by obtain ⟨s0, s1, s2, s3, s4, s5, s6, s7, s8⟩ := hS; go_simp⟩) hH ?_
  simp only [Act.put]
  refine anyBut_one (i := 8) rfl (by kernel_rfl) (fun K hK => ?_)
  go_simp
  refine (HD.out w5.drew HE3.out.mb.drew (i_grown_drew (grown_none w5 0 _))).mono ?_
  rintro e w4 ⟨hok, hno, hmb, hgr⟩
  have H4 : Hid (W3F w w4 B pl d.2.1 (.slice (some ⟨cb, co, none⟩) xs.length cap) fuel (.int .i64 0) (.string ⟨#[]⟩)) := HE3.out.grow hlt (i_grown_trans (i_grown_drew (grown_none w5 0 _)) hgr) hmb
  have HC4 := hide (HCd.out.grown (i_grown_trans (i_grown_drew (grown_none w5 0 _)) hgr))
  by_cases hd : d.1 = 0
  · have he := hok hd
    subst he
    clear hok hno hgr
    have hs1 := HST.out
    rw [if_pos hd] at hs1
    obtain ⟨cb2, co2, cap2, hv2, hcb2, hcn2, hcc2⟩ := HC4.out
    injection hv2 with e1 e2 e3
    injection e1 with e1
    injection e1 with e1 e4
    subst e1 e4 e3
    have hcx2 := hcc2 pl (by omega)
    rw [hx2 pl hpl] at hcx2
    have j0 := hcx2 0 _ rfl
    simp only [Nat.add_zero] at j0
    refine hK.out _ _ (fun _ => ⟨H4.out.x, H4.out.z, H4.out.mb.cell rfl, j0, hcx2 1 _ rfl, hcx2 2 _ rfl, hcx2 3 _ rfl, hcx2 4 _ rfl, hcx2 5 _ rfl⟩) ?_
    clear hcx2 hcc2 j0 hH hK k0 k1 k2 k3 k4 k5 cx cz cv
    refine anyBut_one (i := 9) rfl (by kernel_rfl) (fun K hK => ?_)
    obtain ⟨a0, a1, af⟩ := H4.out.act
    go_simp
    refine hK.out _ _ (fun h0 => absurd h0 (by decide)) (anyBut_done (by kernel_rfl) ?_ _)
    have H6 := hide (H4.out.tell hlt (.int .i64 (d.2.2.1 : Int)) (.string d.2.2.2))
    generalize (w4.setCell ⟨w.heap.size + 1, 0, none⟩ (.int .i64 (d.2.2.1 : Int))).setCell ⟨w.heap.size + 1, 1, none⟩ (.string d.2.2.2) = w6 at *
    have x6 := H6.out.x
    have HSe := hide (settle_any H6.out.mb)
    clear a0 a1 af hmb hK
    go_wp2_with (go_at_call 156; refine HSe.out.mono ?_; rintro e w7 ⟨rfl, hm7, hg7⟩; have H7 := hide (H6.out.grow hlt hg7 hm7); obtain ⟨b0, b1, bf⟩ := H7.out.act)
    have H8 := hide (H7.out.tell hlt (.int .i64 (d.2.2.1 : Int)) (.string d.2.2.2))
    refine leaves_cons (f := 154) (args := #[.pointer (some ⟨w.heap.size + 1 + 1, 0, none⟩), .pointer (some ⟨w.heap.size, 0, none⟩)]) (by simp) (by simp [go_sem]) ?_
    refine (idleT _ _ _).mono ?_
    rintro e u' w'' ⟨rfl, rfl, rfl⟩
    exact ⟨_, res2 rfl _ _ (w.heap.size + 1) _ _ (.int .i64 0) rfl rfl H8.out.a, by rw [hs1], by rw [hs1]; exact H8.out.mb, H8.out.gr⟩
  · have he := hno hd
    unfold Traps at he
    subst he
    have hs1 := HST.out
    rw [if_neg hd] at hs1
    have hds := HFM.out hd
    rw [hds] at hmb
    refine leaves_cons (f := 154) (args := #[.pointer (some ⟨w.heap.size + 1 + 1, 0, none⟩), .pointer (some ⟨w.heap.size, 0, none⟩)]) (by simp) (by simp [go_sem]) ?_
    refine (catchT hmb H4.out.z H4.out.x []).mono ?_
    rintro e u' w'' ⟨rfl, rfl, hm, hg⟩
    have H7 := hide (H4.out.grow hlt hg hm)
    exact ⟨_, res2 rfl _ _ (w.heap.size + 1) (.int .i64 0) (.string ⟨#[]⟩) (.int .i64 0) rfl rfl H7.out.a, by rw [hs1]; rfl, by rw [← hpl] at hm; rw [hs1]; exact hm, H7.out.gr⟩
end Go.Proofs.YtkfnedhllfdghaaGreatDoor
end
