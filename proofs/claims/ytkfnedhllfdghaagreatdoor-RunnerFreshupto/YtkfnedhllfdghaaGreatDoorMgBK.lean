import Derived.Test.YtkfnedhllfdghaaGreatDoorMgBJ

section
namespace Go.Proofs.YtkfnedhllfdghaaGreatDoor.RN
open Go.RowKit Go.Shelf
set_option maxRecDepth 20000

section
variable {w : World} {a : RA} {r : Rn}
/-- is it of the artefact that it lays? -/
def Rn.lays (r : Rn) (m : W.Wr.Ms) : Bool := match r.j with
  | none => false
  | some j => (j.no == m.jo) && (j.ba == m.ba)
set_option maxHeartbeats 4000000 in
theorem lays_any (h : Rm w a r) (m : W.Wr.Ms) :
    Calls Tryz.prog 150 #[.pointer (some ⟨a.R, 0, none⟩), .agg (W.msgC m)] w fun e w' => e = .returned (.bool (r.lays m)) ∧ Below w.heap.size w w' := by
  have c6 := h.c6
  have hlt := lt_of_block h.rb
  unfold W.msgC
  cases hj : r.j with
  | none =>
    rw [hj] at c6
    replace c6 : w.cell? ⟨a.R, 6, none⟩ = some (.pointer none) := c6
    have HE : Hid (r.lays m = false) := hide (by unfold Rn.lays; rw [hj])
    clear h hj
    go_enter Tryz.func150, Tryz.ntmps150
    go_wp2_with fail
    go_quiet (fail)
    go_wp2_with fail
    go_ret
    exact ⟨by rw [HE.out]; rfl, CH.below_drewN (CH.below_alloc w _) _⟩
  | some j =>
    rw [hj] at c6
    replace c6 : w.cell? ⟨a.R, 6, none⟩ = some (.pointer (some ⟨a.ja.J, 0, none⟩)) := c6
    have hjm := h.j j hj
    have d1 := hjm.c1_
    have d2 := hjm.c2_
    have hJl := lt_of_block hjm.jb
    have HE : Hid (r.lays m = ((j.no == m.jo) && (j.ba == m.ba))) := hide (by unfold Rn.lays; rw [hj])
    clear h hj hjm
    cases t1 : (j.no == m.jo) with
    | false =>
      rw [t1] at HE
      go_enter Tryz.func150, Tryz.ntmps150
      go_wp2_with fail
      go_quiet (fail)
      go_wp2_with fail
      go_ret
      exact ⟨by rw [HE.out]; rfl, CH.below_drewN (CH.below_alloc w _) _⟩
    | true =>
      rw [t1] at HE
      go_enter Tryz.func150, Tryz.ntmps150
      go_wp2_with fail
      go_quiet (fail)
      go_wp2_with fail
      go_ret
      exact ⟨by rw [HE.out]; simp, CH.below_drewN (CH.below_alloc w _) _⟩
def Rn.refd (r : Rn) (m : W.Wr.Ms) : Rn := if r.lays m = true then { r with j := none } else r
set_option maxHeartbeats 4000000 in
theorem refused_any (h : Rm w a r) (m : W.Wr.Ms) :
    Calls Tryz.prog 109 #[.pointer (some ⟨a.R, 0, none⟩), .agg (W.msgC m)] w fun e w' => e = .returned (.tuple #[]) ∧ St w a r w' a (r.refd m) := by
  have HB0 : Hid (Below w.heap.size w (w.alloc (.cells #[.int .i64 m.k, .int .i64 m.se, .int .i64 m.nu, .int .i64 m.jo, .int .i64 m.ba, .int .i64 m.ix, .int .i64 m.co, .int .i64 m.rc, .int .u64 (m.rb : Int), .string m.tx, .string m.pr] 67))) := hide (CH.below_alloc w _)
  have HL := hide (lays_any (h.below HB0.out) m)
  unfold W.msgC at HL ⊢
  have HH := hide h
  clear h
  cases tl : r.lays m with
  | false =>
    rw [tl] at HL
    have HE : Hid (r.refd m = r) := hide (if_neg (by rw [tl]; decide))
    clear tl
    go_enter Tryz.func109, Tryz.ntmps109
    go_wp2_with fail
    refine HL.out.mono ?_
    rintro e w1 ⟨rfl, hb1⟩
    have HS := hide ((St.refl HH.out).low (HB0.out.trans (hb1.mono HB0.out.size)))
    clear hb1
    go_wp2_with fail
    go_end0
    exact ⟨rfl, by rw [HE.out]; exact HS.out⟩
  | true =>
    rw [tl] at HL
    have HE : Hid (r.refd m = { r with j := none }) := hide (if_pos tl)
    clear tl
    go_enter Tryz.func109, Tryz.ntmps109
    go_wp2_with fail
    refine HL.out.mono ?_
    rintro e w1 ⟨rfl, hb1⟩
    have HS := hide ((St.refl HH.out).low (HB0.out.trans (hb1.mono HB0.out.size)))
    have z6 := HS.out.rm.z 6
    have d6 := HS.out.rm.c6
    obtain ⟨pk, hpk, _, _⟩ := jp_ptr a.ja r.j
    rw [hpk] at d6
    have hR2 := lt_of_block HS.out.rm.rb
    have HS3 := hide (HS.out.trans (St.drop HS.out.rm))
    clear hpk hb1
    go_wp2_with fail
    go_end0
    exact ⟨rfl, by rw [HE.out]; exact HS3.out⟩
/-- what an ack reads -/
structure Hy (R J L X o : Nat) (co : Int) (V : World) : Prop where
  c6 : V.cell? ⟨R, 6, none⟩ = some (.pointer (some ⟨J, 0, none⟩))
  cl : V.cell? ⟨J, o, none⟩ = some (.pointer (some ⟨L, 0, none⟩))
  xm : V.cell? ⟨X, 6, none⟩ = some (.int .i64 co)
def Rn.stor (r : Rn) (m : W.Wr.Ms) : Rn := match r.j with
  | none => r
  | some j => if (j.ba == m.ba) = true then { r with j := some { j with lg := j.lg.ack m.co } } else r
set_option maxHeartbeats 4000000 in
theorem stored_any (h : Rm w a r) (hk : r.ok) (m : W.Wr.Ms) (hco : -9223372036854775808 ≤ m.co ∧ m.co ≤ 9223372036854775807) :
    Calls Tryz.prog 107 #[.pointer (some ⟨a.R, 0, none⟩), .agg (W.msgC m)] w fun e w' => e = .returned (.tuple #[]) ∧ ∃ a', St w a r w' a' (r.stor m) := by
  have c6 := h.c6
  have hlt := lt_of_block h.rb
  have HH := hide h
  unfold W.msgC
  cases hj : r.j with
  | none =>
    rw [hj] at c6
    replace c6 : w.cell? ⟨a.R, 6, none⟩ = some (.pointer none) := c6
    have HE : Hid (r.stor m = r) := hide (by unfold Rn.stor; rw [hj])
    clear h hj
    go_enter Tryz.func107, Tryz.ntmps107
    go_wp2_with fail
    go_quiet (fail)
    go_wp2_with fail
    go_end0
    exact ⟨rfl, a, by rw [HE.out]; exact (St.refl HH.out).low (CH.below_drewN (CH.below_alloc w _) _)⟩
  | some j =>
    rw [hj] at c6
    replace c6 : w.cell? ⟨a.R, 6, none⟩ = some (.pointer (some ⟨a.ja.J, 0, none⟩)) := c6
    have hjm := h.j j hj
    have d2 := hjm.c2_
    have d3 := hjm.c3_
    have hJl := lt_of_block hjm.jb
    have HJ := hide hj
    have HKl := hide (hk.j j hj).lg
    clear h hjm
    cases t1 : (j.ba == m.ba) with
    | false =>
      have HE : Hid (r.stor m = r) := hide (by unfold Rn.stor; rw [hj]; exact if_neg (by rw [t1]; decide))
      clear hj
      go_enter Tryz.func107, Tryz.ntmps107
      go_wp2_with fail
      go_quiet (fail)
      go_wp2_with fail
      go_end0
      exact ⟨rfl, a, by rw [HE.out]; exact (St.refl HH.out).low (CH.below_drewN (CH.below_alloc w _) _)⟩
    | true =>
      have HE : Hid (r.stor m = { r with j := some { j with lg := j.lg.ack m.co } }) := hide (by unfold Rn.stor; rw [hj]; exact if_pos t1)
      clear hj
      go_enter Tryz.func107, Tryz.ntmps107
      go_wp2_with fail
      go_quiet (fail)
      go_upto_region 2 with fail
      obtain ⟨V0, hV0⟩ : ∃ V0, (w.alloc (.cells #[.int .i64 m.k, .int .i64 m.se, .int .i64 m.nu, .int .i64 m.jo, .int .i64 m.ba, .int .i64 m.ix, .int .i64 m.co, .int .i64 m.rc, .int .u64 (m.rb : Int), .string m.tx, .string m.pr] 67)).drewN nq = V0 := ⟨_, rfl⟩
      have HB0 : Hid (Below w.heap.size w V0.drew) := hide (by rw [← hV0]; exact CH.below_drew (CH.below_drewN (CH.below_alloc w _) _))
      have HM0 : Hid (W.Mg V0.drew w.heap.size m) := hide (by rw [← hV0]; exact heap_alloc_new w (.cells #[.int .i64 m.k, .int .i64 m.se, .int .i64 m.nu, .int .i64 m.jo, .int .i64 m.ba, .int .i64 m.ix, .int .i64 m.co, .int .i64 m.rc, .int .u64 (m.rb : Int), .string m.tx, .string m.pr] 67))
      rw [hV0]
      clear hV0
      have HX0 : Hid (Hy a.R a.ja.J a.ja.L w.heap.size 3 m.co V0.drew) := hide ⟨(HB0.out.cell (p := ⟨a.R, 6, none⟩) hlt).trans c6, (HB0.out.cell (p := ⟨a.ja.J, 3, none⟩) hJl).trans d3, (msg_cells HM0.out).2.2.2.2.2.2.1⟩
      have HAk := hide (jack1 ((HH.out.below HB0.out).j j HJ.out) HKl.out m.co hco)
      refine wp_region_held_drew (S := fun V => Hy a.R a.ja.J a.ja.L w.heap.size 3 m.co V) (by kernel_rfl) (HX0.out) (fun hHeld => ?_)
      refine wpAnyH_take (i := 0) (v := .pointer (some ⟨a.R, 0, none⟩)) rfl (by kernel_rfl) (by kernel_rfl) (by kernel_rfl) (fun _ _ _ h => h) (Or.inl ⟨by kernel_rfl, fun w1 hSw => by clear hHeld; have k6 := hSw.c6; have k3 := hSw.cl; have kx := hSw.xm; go_simp⟩) hHeld ?_
      try simp only [Act.put]
      try simp only [List.getElem_toArray]
      try simp only [List.getElem_cons_succ]
      try simp only [List.getElem_cons_zero]
      try simp only [List.setIfInBounds_toArray]
      try simp only [List.set_cons_succ, List.set_cons_zero]
      refine wpAnyH_take (i := 1) (v := .pointer (some ⟨a.R, 0, none⟩)) rfl (by kernel_rfl) (by kernel_rfl) (by kernel_rfl) (fun _ _ _ h => h) (Or.inl ⟨by kernel_rfl, fun w1 hSw => by clear hHeld; have k6 := hSw.c6; have k3 := hSw.cl; have kx := hSw.xm; go_simp⟩) hHeld ?_
      try simp only [Act.put]
      try simp only [List.getElem_toArray]
      try simp only [List.getElem_cons_succ]
      try simp only [List.getElem_cons_zero]
      try simp only [List.setIfInBounds_toArray]
      try simp only [List.set_cons_succ, List.set_cons_zero]
      refine wpAnyH_take (i := 2) (v := .pointer (some ⟨a.R, 6, none⟩)) rfl (by kernel_rfl) (by kernel_rfl) (by kernel_rfl) (fun _ _ _ h => h) (Or.inl ⟨by kernel_rfl, fun w1 hSw => by clear hHeld; have k6 := hSw.c6; have k3 := hSw.cl; have kx := hSw.xm; go_simp⟩) hHeld ?_
      try simp only [Act.put]
      try simp only [List.getElem_toArray]
      try simp only [List.getElem_cons_succ]
      try simp only [List.getElem_cons_zero]
      try simp only [List.setIfInBounds_toArray]
      try simp only [List.set_cons_succ, List.set_cons_zero]
      refine wpAnyH_take (i := 3) (v := .pointer (some ⟨a.ja.J, 0, none⟩)) rfl (by kernel_rfl) (by kernel_rfl) (by kernel_rfl) (fun _ _ _ h => h) (Or.inl ⟨by kernel_rfl, fun w1 hSw => by clear hHeld; have k6 := hSw.c6; have k3 := hSw.cl; have kx := hSw.xm; go_simp⟩) hHeld ?_
      try simp only [Act.put]
      try simp only [List.getElem_toArray]
      try simp only [List.getElem_cons_succ]
      try simp only [List.getElem_cons_zero]
      try simp only [List.setIfInBounds_toArray]
      try simp only [List.set_cons_succ, List.set_cons_zero]
      refine wpAnyH_take (i := 4) (v := .pointer (some ⟨a.ja.J, 0, none⟩)) rfl (by kernel_rfl) (by kernel_rfl) (by kernel_rfl) (fun _ _ _ h => h) (Or.inl ⟨by kernel_rfl, fun w1 hSw => by clear hHeld; have k6 := hSw.c6; have k3 := hSw.cl; have kx := hSw.xm; go_simp⟩) hHeld ?_
      try simp only [Act.put]
      try simp only [List.getElem_toArray]
      try simp only [List.getElem_cons_succ]
      try simp only [List.getElem_cons_zero]
      try simp only [List.setIfInBounds_toArray]
      try simp only [List.set_cons_succ, List.set_cons_zero]
      refine wpAnyH_take (i := 5) (v := .pointer (some ⟨a.ja.J, 3, none⟩)) rfl (by kernel_rfl) (by kernel_rfl) (by kernel_rfl) (fun _ _ _ h => h) (Or.inl ⟨by kernel_rfl, fun w1 hSw => by clear hHeld; have k6 := hSw.c6; have k3 := hSw.cl; have kx := hSw.xm; go_simp⟩) hHeld ?_
      try simp only [Act.put]
      try simp only [List.getElem_toArray]
      try simp only [List.getElem_cons_succ]
      try simp only [List.getElem_cons_zero]
      try simp only [List.setIfInBounds_toArray]
      try simp only [List.set_cons_succ, List.set_cons_zero]
      refine wpAnyH_take (i := 6) (v := .pointer (some ⟨a.ja.L, 0, none⟩)) rfl (by kernel_rfl) (by kernel_rfl) (by kernel_rfl) (fun _ _ _ h => h) (Or.inl ⟨by kernel_rfl, fun w1 hSw => by clear hHeld; have k6 := hSw.c6; have k3 := hSw.cl; have kx := hSw.xm; go_simp⟩) hHeld ?_
      try simp only [Act.put]
      try simp only [List.getElem_toArray]
      try simp only [List.getElem_cons_succ]
      try simp only [List.getElem_cons_zero]
      try simp only [List.setIfInBounds_toArray]
      try simp only [List.set_cons_succ, List.set_cons_zero]
      refine wpAnyH_take (i := 7) (v := .pointer (some ⟨w.heap.size, 6, none⟩)) rfl (by kernel_rfl) (by kernel_rfl) (by kernel_rfl) (fun _ _ _ h => h) (Or.inl ⟨by kernel_rfl, fun w1 hSw => by clear hHeld; have k6 := hSw.c6; have k3 := hSw.cl; have kx := hSw.xm; go_simp⟩) hHeld ?_
      try simp only [Act.put]
      try simp only [List.getElem_toArray]
      try simp only [List.getElem_cons_succ]
      try simp only [List.getElem_cons_zero]
      try simp only [List.setIfInBounds_toArray]
      try simp only [List.set_cons_succ, List.set_cons_zero]
      refine wpAnyH_take (i := 8) (v := .int .i64 m.co) rfl (by kernel_rfl) (by kernel_rfl) (by kernel_rfl) (fun _ _ _ h => h) (Or.inl ⟨by kernel_rfl, fun w1 hSw => by clear hHeld; have k6 := hSw.c6; have k3 := hSw.cl; have kx := hSw.xm; go_simp⟩) hHeld ?_
      try simp only [Act.put]
      try simp only [List.getElem_toArray]
      try simp only [List.getElem_cons_succ]
      try simp only [List.getElem_cons_zero]
      try simp only [List.setIfInBounds_toArray]
      try simp only [List.set_cons_succ, List.set_cons_zero]
      refine wpAnyH_ready (rs := [9]) (by kernel_rfl) (by simp) ?_
      refine AllReadyH.cons rfl (fun K hK => ?_) AllReadyH.nil
      go_simp
      refine HAk.out.mono ?_
      rintro e V2 ⟨rfl, ja2, hjs⟩
      have HS2 := hide ((St.job (HH.out.below HB0.out) HJ.out hjs).pre HB0.out)
      have HX2 : Hid (Hy a.R a.ja.J a.ja.L w.heap.size 3 m.co V2) := hide ⟨(World.cell?_of_block (a := ⟨a.R, 6, none⟩) (hjs.kp.block a.R (by have := HB0.out.size; omega) (fun i hi => (HH.out.below HB0.out).jno HJ.out (HH.out.below HB0.out).rb (by decide) (by decide) (by decide) (by decide) (by decide) (JA.g_d hi)))).trans HX0.out.c6, (by have k := hjs.jm.c3_; rw [hjs.J, hjs.L] at k; exact k), (hjs.kp.cell w.heap.size (lt_of_block HM0.out) 6 (fun hi => (HH.out.below HB0.out).jno HJ.out HM0.out (by decide) (by decide) (by decide) (by decide) (by decide) (JA.g_d hi))).trans HX0.out.xm⟩
      clear hjs
      refine hK.out _ _ (HX2.out) (fun hHeld => ?_)
      clear hK K
      try simp only [Act.put]
      try simp only [List.getElem_toArray]
      try simp only [List.getElem_cons_succ]
      try simp only [List.getElem_cons_zero]
      try simp only [List.setIfInBounds_toArray]
      try simp only [List.set_cons_succ, List.set_cons_zero]
      refine wpAnyH_done (by kernel_rfl) ?_ _
      go_wp2_with fail
      go_end0
      exact ⟨rfl, _, by rw [HE.out]; exact HS2.out⟩
def Rn.admt (r : Rn) (m : W.Wr.Ms) : Rn := match r.j with
  | none => r
  | some j => if r.lays m = true then { r with j := some { j with ar := j.ar.ack m.co } } else r
set_option maxHeartbeats 4000000 in
theorem admitted_any (h : Rm w a r) (hk : r.ok) (m : W.Wr.Ms) (hco : -9223372036854775808 ≤ m.co ∧ m.co ≤ 9223372036854775807) :
    Calls Tryz.prog 108 #[.pointer (some ⟨a.R, 0, none⟩), .agg (W.msgC m)] w fun e w' => e = .returned (.tuple #[]) ∧ ∃ a', St w a r w' a' (r.admt m) := by
  have HBz : Hid (Below w.heap.size w (w.alloc (.cells #[.int .i64 m.k, .int .i64 m.se, .int .i64 m.nu, .int .i64 m.jo, .int .i64 m.ba, .int .i64 m.ix, .int .i64 m.co, .int .i64 m.rc, .int .u64 (m.rb : Int), .string m.tx, .string m.pr] 67))) := hide (CH.below_alloc w _)
  have HL := hide (lays_any (h.below HBz.out) m)
  have HMz : Hid (W.Mg (w.alloc (.cells #[.int .i64 m.k, .int .i64 m.se, .int .i64 m.nu, .int .i64 m.jo, .int .i64 m.ba, .int .i64 m.ix, .int .i64 m.co, .int .i64 m.rc, .int .u64 (m.rb : Int), .string m.tx, .string m.pr] 67)) w.heap.size m) := hide (heap_alloc_new w (.cells #[.int .i64 m.k, .int .i64 m.se, .int .i64 m.nu, .int .i64 m.jo, .int .i64 m.ba, .int .i64 m.ix, .int .i64 m.co, .int .i64 m.rc, .int .u64 (m.rb : Int), .string m.tx, .string m.pr] 67))
  unfold W.msgC at HL ⊢
  have HH := hide h
  have hlt := lt_of_block h.rb
  cases tl : r.lays m with
  | false =>
    rw [tl] at HL
    have HE : Hid (r.admt m = r) := hide (by unfold Rn.admt; split; rfl; exact if_neg (by rw [tl]; decide))
    clear tl h
    go_enter Tryz.func108, Tryz.ntmps108
    go_wp2_with fail
    refine HL.out.mono ?_
    rintro e w1 ⟨rfl, hb1⟩
    have HS := hide ((St.refl HH.out).low (HBz.out.trans (hb1.mono HBz.out.size)))
    clear hb1
    go_wp2_with fail
    go_end0
    exact ⟨rfl, a, by rw [HE.out]; exact HS.out⟩
  | true =>
    obtain ⟨j, hj⟩ : ∃ j, r.j = some j := by
      cases hj : r.j with
      | none => unfold Rn.lays at tl; rw [hj] at tl; cases tl
      | some j => exact ⟨j, rfl⟩
    rw [tl] at HL
    have HE : Hid (r.admt m = { r with j := some { j with ar := j.ar.ack m.co } }) := hide (by unfold Rn.admt; rw [hj]; exact if_pos tl)
    have c6 := h.c6
    rw [hj] at c6
    replace c6 : w.cell? ⟨a.R, 6, none⟩ = some (.pointer (some ⟨a.ja.J, 0, none⟩)) := c6
    have hjm := h.j j hj
    have d3 := hjm.c4_
    have hJl := lt_of_block hjm.jb
    have HJ := hide hj
    have HKl := hide (hk.j j hj).ar
    clear tl h hjm hj
    go_enter Tryz.func108, Tryz.ntmps108
    go_wp2_with fail
    refine HL.out.mono ?_
    rintro e V0 ⟨rfl, hb1⟩
    have HB0 : Hid (Below w.heap.size w V0.drew) := hide (CH.below_drew (HBz.out.trans (hb1.mono HBz.out.size)))
    have HM0 : Hid (W.Mg V0.drew w.heap.size m) := hide ((hb1.block _ (lt_of_block HMz.out)).trans HMz.out)
    clear hb1 HL HMz HBz
    go_upto_region 2 with fail
    have HX0 : Hid (Hy a.R a.ja.J a.ja.A w.heap.size 4 m.co V0.drew) := hide ⟨(HB0.out.cell (p := ⟨a.R, 6, none⟩) hlt).trans c6, (HB0.out.cell (p := ⟨a.ja.J, 4, none⟩) hJl).trans d3, (msg_cells HM0.out).2.2.2.2.2.2.1⟩
    have HAk := hide (jack2 ((HH.out.below HB0.out).j j HJ.out) HKl.out m.co hco)
    refine wp_region_held_drew (S := fun V => Hy a.R a.ja.J a.ja.A w.heap.size 4 m.co V) (by kernel_rfl) (HX0.out) (fun hHeld => ?_)
    refine wpAnyH_take (i := 0) (v := .pointer (some ⟨a.R, 0, none⟩)) rfl (by kernel_rfl) (by kernel_rfl) (by kernel_rfl) (fun _ _ _ h => h) (Or.inl ⟨by kernel_rfl, fun w1 hSw => by clear hHeld; have k6 := hSw.c6; have k3 := hSw.cl; have kx := hSw.xm; go_simp⟩) hHeld ?_
    try simp only [Act.put]
    try simp only [List.getElem_toArray]
    try simp only [List.getElem_cons_succ]
    try simp only [List.getElem_cons_zero]
    try simp only [List.setIfInBounds_toArray]
    try simp only [List.set_cons_succ, List.set_cons_zero]
    refine wpAnyH_take (i := 1) (v := .pointer (some ⟨a.R, 0, none⟩)) rfl (by kernel_rfl) (by kernel_rfl) (by kernel_rfl) (fun _ _ _ h => h) (Or.inl ⟨by kernel_rfl, fun w1 hSw => by clear hHeld; have k6 := hSw.c6; have k3 := hSw.cl; have kx := hSw.xm; go_simp⟩) hHeld ?_
    try simp only [Act.put]
    try simp only [List.getElem_toArray]
    try simp only [List.getElem_cons_succ]
    try simp only [List.getElem_cons_zero]
    try simp only [List.setIfInBounds_toArray]
    try simp only [List.set_cons_succ, List.set_cons_zero]
    refine wpAnyH_take (i := 2) (v := .pointer (some ⟨a.R, 6, none⟩)) rfl (by kernel_rfl) (by kernel_rfl) (by kernel_rfl) (fun _ _ _ h => h) (Or.inl ⟨by kernel_rfl, fun w1 hSw => by clear hHeld; have k6 := hSw.c6; have k3 := hSw.cl; have kx := hSw.xm; go_simp⟩) hHeld ?_
    try simp only [Act.put]
    try simp only [List.getElem_toArray]
    try simp only [List.getElem_cons_succ]
    try simp only [List.getElem_cons_zero]
    try simp only [List.setIfInBounds_toArray]
    try simp only [List.set_cons_succ, List.set_cons_zero]
    refine wpAnyH_take (i := 3) (v := .pointer (some ⟨a.ja.J, 0, none⟩)) rfl (by kernel_rfl) (by kernel_rfl) (by kernel_rfl) (fun _ _ _ h => h) (Or.inl ⟨by kernel_rfl, fun w1 hSw => by clear hHeld; have k6 := hSw.c6; have k3 := hSw.cl; have kx := hSw.xm; go_simp⟩) hHeld ?_
    try simp only [Act.put]
    try simp only [List.getElem_toArray]
    try simp only [List.getElem_cons_succ]
    try simp only [List.getElem_cons_zero]
    try simp only [List.setIfInBounds_toArray]
    try simp only [List.set_cons_succ, List.set_cons_zero]
    refine wpAnyH_take (i := 4) (v := .pointer (some ⟨a.ja.J, 0, none⟩)) rfl (by kernel_rfl) (by kernel_rfl) (by kernel_rfl) (fun _ _ _ h => h) (Or.inl ⟨by kernel_rfl, fun w1 hSw => by clear hHeld; have k6 := hSw.c6; have k3 := hSw.cl; have kx := hSw.xm; go_simp⟩) hHeld ?_
    try simp only [Act.put]
    try simp only [List.getElem_toArray]
    try simp only [List.getElem_cons_succ]
    try simp only [List.getElem_cons_zero]
    try simp only [List.setIfInBounds_toArray]
    try simp only [List.set_cons_succ, List.set_cons_zero]
    refine wpAnyH_take (i := 5) (v := .pointer (some ⟨a.ja.J, 4, none⟩)) rfl (by kernel_rfl) (by kernel_rfl) (by kernel_rfl) (fun _ _ _ h => h) (Or.inl ⟨by kernel_rfl, fun w1 hSw => by clear hHeld; have k6 := hSw.c6; have k3 := hSw.cl; have kx := hSw.xm; go_simp⟩) hHeld ?_
    try simp only [Act.put]
    try simp only [List.getElem_toArray]
    try simp only [List.getElem_cons_succ]
    try simp only [List.getElem_cons_zero]
    try simp only [List.setIfInBounds_toArray]
    try simp only [List.set_cons_succ, List.set_cons_zero]
    refine wpAnyH_take (i := 6) (v := .pointer (some ⟨a.ja.A, 0, none⟩)) rfl (by kernel_rfl) (by kernel_rfl) (by kernel_rfl) (fun _ _ _ h => h) (Or.inl ⟨by kernel_rfl, fun w1 hSw => by clear hHeld; have k6 := hSw.c6; have k3 := hSw.cl; have kx := hSw.xm; go_simp⟩) hHeld ?_
    try simp only [Act.put]
    try simp only [List.getElem_toArray]
    try simp only [List.getElem_cons_succ]
    try simp only [List.getElem_cons_zero]
    try simp only [List.setIfInBounds_toArray]
    try simp only [List.set_cons_succ, List.set_cons_zero]
    refine wpAnyH_take (i := 7) (v := .pointer (some ⟨w.heap.size, 6, none⟩)) rfl (by kernel_rfl) (by kernel_rfl) (by kernel_rfl) (fun _ _ _ h => h) (Or.inl ⟨by kernel_rfl, fun w1 hSw => by clear hHeld; have k6 := hSw.c6; have k3 := hSw.cl; have kx := hSw.xm; go_simp⟩) hHeld ?_
    try simp only [Act.put]
    try simp only [List.getElem_toArray]
    try simp only [List.getElem_cons_succ]
    try simp only [List.getElem_cons_zero]
    try simp only [List.setIfInBounds_toArray]
    try simp only [List.set_cons_succ, List.set_cons_zero]
    refine wpAnyH_take (i := 8) (v := .int .i64 m.co) rfl (by kernel_rfl) (by kernel_rfl) (by kernel_rfl) (fun _ _ _ h => h) (Or.inl ⟨by kernel_rfl, fun w1 hSw => by clear hHeld; have k6 := hSw.c6; have k3 := hSw.cl; have kx := hSw.xm; go_simp⟩) hHeld ?_
    try simp only [Act.put]
    try simp only [List.getElem_toArray]
    try simp only [List.getElem_cons_succ]
    try simp only [List.getElem_cons_zero]
    try simp only [List.setIfInBounds_toArray]
    try simp only [List.set_cons_succ, List.set_cons_zero]
    refine wpAnyH_ready (rs := [9]) (by kernel_rfl) (by simp) ?_
    refine AllReadyH.cons rfl (fun K hK => ?_) AllReadyH.nil
    go_simp
    refine HAk.out.mono ?_
    rintro e V2 ⟨rfl, ja2, hjs⟩
    have HS2 := hide ((St.job (HH.out.below HB0.out) HJ.out hjs).pre HB0.out)
    have HX2 : Hid (Hy a.R a.ja.J a.ja.A w.heap.size 4 m.co V2) := hide ⟨(World.cell?_of_block (a := ⟨a.R, 6, none⟩) (hjs.kp.block a.R (by have := HB0.out.size; omega) (fun i hi => (HH.out.below HB0.out).jno HJ.out (HH.out.below HB0.out).rb (by decide) (by decide) (by decide) (by decide) (by decide) (JA.g_d hi)))).trans HX0.out.c6, (by have k := hjs.jm.c4_; rw [hjs.J, hjs.A] at k; exact k), (hjs.kp.cell w.heap.size (lt_of_block HM0.out) 6 (fun hi => (HH.out.below HB0.out).jno HJ.out HM0.out (by decide) (by decide) (by decide) (by decide) (by decide) (JA.g_d hi))).trans HX0.out.xm⟩
    clear hjs
    refine hK.out _ _ (HX2.out) (fun hHeld => ?_)
    clear hK K
    try simp only [Act.put]
    try simp only [List.getElem_toArray]
    try simp only [List.getElem_cons_succ]
    try simp only [List.getElem_cons_zero]
    try simp only [List.setIfInBounds_toArray]
    try simp only [List.set_cons_succ, List.set_cons_zero]
    refine wpAnyH_done (by kernel_rfl) ?_ _
    go_wp2_with fail
    go_end0
    exact ⟨rfl, _, by rw [HE.out]; exact HS2.out⟩
end
end Go.Proofs.YtkfnedhllfdghaaGreatDoor.RN
end

section
namespace Go.Proofs.YtkfnedhllfdghaaGreatDoor.RN
open Go.RowKit Go.Shelf
set_option maxRecDepth 20000

theorem own_cx {w : World} {base : Nat} {v : Value} {xs : List In} (h : w.ownsRow base 189 6 v xs.length (flatI xs)) (h0 : 0 < xs.length) : Cx w v xs ∧ base ≤ cxB v := by
  rcases h.2 with ⟨_, h1⟩ | ⟨g, cap, cur, rfl, hg, hh, _⟩
  · omega
  · refine ⟨⟨g, 0, cap, cur, rfl, hh, fun j hj i u hi => ?_⟩, hg⟩
    have hi6 : i < 6 := by
      rcases Nat.lt_or_ge i 6 with h' | h'
      · exact h'
      · rw [List.getElem?_eq_none (by simpa [In.cs] using h')] at hi; cases hi
    have := h.cells (g := g) rfl (j * 6 + i) u (flatI_of hj hi6 hi)
    rw [addr_add] at this
    rw [Nat.add_assoc]
    exact this
theorem below_un {w w2 : World} (h : Below w.drew.heap.size w.drew w2) : Below w.heap.size w w2 := ⟨h.os, h.tape, h.output, h.size, h.block⟩
set_option maxHeartbeats 2000000 in
/-- interp.New, with where its code lies -/
theorem newx_ok {w : World} {v : Value} {fuel : Nat} {xs : List In} (hx : ∀ x ∈ xs, x.Fits) (h : Cd w v xs) (hc : Pg.checkE fuel xs = (0, 0)) (h0 : 0 < xs.length) (h64 : xs.length ≤ 64) :
    Calls Tryz.prog 185 #[.agg #[.int .i64 (fuel : Int), v]] w fun e w' => ∃ B v', e = .returned (.tuple #[.pointer (some ⟨B, 0, none⟩), .int .i64 0]) ∧ Mb w' B Im.m0 v' fuel ∧ Cx w' v' xs ∧ w.heap.size ≤ B ∧ w.heap.size ≤ cxB v' ∧ Below w.heap.size w w' := by
  have HC := hide (fun w1 h1 => check_any fuel xs (fun x hm => (hx x hm).k) v w1 h1)
  rw [hc] at HC
  have HCd := hide h
  have HCl := hide (fun w1 (h1 : Cd w1 v xs) => cloneI h1 h0 h64)
  obtain ⟨p, cap, rfl, -⟩ := h
  clear hc hx
  go_enter Tryz.func185, Tryz.ntmps185
  go_wp2_with fail
  refine (HC.out _ (HCd.out.below (CH.below_alloc w _) (Nat.le_refl _))).mono ?_
  rintro e w1 ⟨rfl, hb1⟩
  have HB1 : Hid (Below w.heap.size w w1) := (CH.below_alloc w _).trans (hb1.mono (by simp))
  have hp : w1.heap[w.heap.size]? = some (.cells #[.int .i64 (fuel : Int), .slice p xs.length cap] 62 (0, 0)) := (hb1.block w.heap.size (by simp)).trans (heap_alloc_new w _)
  have p0 : w1.cell? ⟨w.heap.size, 0, none⟩ = some (.int .i64 (fuel : Int)) := by simp [World.cell?, hp]
  have p1 : w1.cell? ⟨w.heap.size, 1, none⟩ = some (.slice p xs.length cap) := by simp [World.cell?, hp]
  have hpl : w.heap.size < w1.heap.size := lt_of_block hp
  clear hb1
  go_wp2_with fail
  go_region_held3 (fun w' => w'.cell? ⟨w.heap.size, 0, none⟩ = some (.int .i64 (fuel : Int)) ∧ w'.cell? ⟨w.heap.size, 1, none⟩ = some (.slice p xs.length cap)) (first | exact ⟨q0, q1⟩ | exact ⟨p0, p1⟩ | exact ⟨Lib.cell?_alloc_some _ q0, Lib.cell?_alloc_some _ q1⟩ | go_keep) (first | (go_at_call 222; refine (HCl.out _ (HCd.out.below HB1.out (Nat.le_refl _)).drew).mono ?_; rintro e w2 ⟨v2, rfl, ho2, hb2'⟩; obtain ⟨g2, cap2, rfl⟩ := own_some ho2 h0; have hb2 := below_un hb2'; have q0 : w2.cell? ⟨w.heap.size, 0, none⟩ = some (.int .i64 (fuel : Int)) := (hb2.cell (p := ⟨w.heap.size, 0, none⟩) hpl).trans p0; have q1 : w2.cell? ⟨w.heap.size, 1, none⟩ = some (.slice p xs.length cap) := (hb2.cell (p := ⟨w.heap.size, 1, none⟩) hpl).trans p1))
  go_wp2_with fail
  go_ret2
  have hB2 : Below w.heap.size w w2 := HB1.out.trans (hb2.mono HB1.out.size)
  have hcx := own_cx ho2 h0
  have hs1 : w.heap.size ≤ w1.drew.heap.size := HB1.out.size
  exact ⟨w2.heap.size, _, rfl, ⟨heap_alloc_new w2 _, ⟨rfl, rfl, rfl⟩⟩, hcx.1.keep (by obtain ⟨cur, hc⟩ := hcx.1.typ; exact (CH.below_alloc w2 _).block _ (lt_of_block hc)), hB2.size, Nat.le_trans hs1 hcx.2, hB2.trans ((CH.below_alloc w2 _).mono hB2.size)⟩
/-- the job of an offer -/
def newJ (m : W.Wr.Ms) (wd rs : Nat) : Jb := ⟨(Pg.unpackS m.pr).1.2, (Pg.unpackS m.pr).1.1, Im.m0, m.jo, m.ba, CH.newS wd rs, (CH.newS wd rs).put ⟨#[]⟩⟩
end Go.Proofs.YtkfnedhllfdghaaGreatDoor.RN
end

section
namespace Go.Proofs.YtkfnedhllfdghaaGreatDoor.RN
open Go.RowKit Go.Shelf
set_option maxRecDepth 20000

theorem unpack_chk {b : ByteArray} (h : (Pg.unpackS b).2 = 0) : (Pg.checkE ((Pg.unpackS b).1.1 : Int) (Pg.unpackS b).1.2).1 = 0 := by
  unfold Pg.unpackS at h ⊢
  split at h
  · exact absurd h (by decide)
  split at h
  · exact absurd h (by decide)
  split at h
  · exact absurd h (by decide)
  · rename_i h1 h2 h3
    rw [if_neg h1, if_neg h2, if_neg h3]
    exact Decidable.not_not.1 h3
theorem chk_zz {f : Nat} {xs : List In} (hp : Pok f xs) (hE : (Pg.checkE (f : Int) xs).1 = 0) : Pg.checkE (f : Int) xs = (0, 0) := by
  have h1 := hp.f1; have h2 := hp.f2; have h3 := hp.l1; have h4 := hp.l2
  unfold Pg.checkE at hE ⊢
  rw [if_neg (by omega), if_neg (by omega)] at hE ⊢
  exact goE_ok _ _ _ hE
theorem pok_un {b : ByteArray} (hF : ∀ x ∈ (Pg.unpackS b).1.2, x.Fits) (h : (Pg.unpackS b).2 = 0) : Pok (Pg.unpackS b).1.1 (Pg.unpackS b).1.2 := by
  obtain ⟨n, hn, hp⟩ := pok_of hF (unpack_chk h)
  have e : (Pg.unpackS b).1.1 = n := by omega
  rw [e]
  exact hp
theorem newJ_ok {m : W.Wr.Ms} {wd rs : Nat} (hw : 1 ≤ wd ∧ wd ≤ 8) (hr : 1 ≤ rs ∧ rs ≤ 16) (hF : ∀ x ∈ (Pg.unpackS m.pr).1.2, x.Fits) (h : (Pg.unpackS m.pr).2 = 0) : (newJ m wd rs).ok := by
  have hp := pok_un hF h
  have hs := CH.newS_ok hw.1 hw.2 hr.1 hr.2
  exact ⟨hp, m0_ok _ _ hp.l1 hp.f1, hs, CH.Sn.put_ok hs ⟨#[]⟩⟩
/-- what newJob leaves -/
def NjP (m : W.Wr.Ms) (wd rs : Nat) (w : World) (e : Ending) (w' : World) : Prop := Below w.heap.size w w' ∧ (((Pg.unpackS m.pr).2 ≠ 0 ∧ e = .returned (.pointer none)) ∨ ((Pg.unpackS m.pr).2 = 0 ∧ ∃ ja, e = .returned (.pointer (some ⟨ja.J, 0, none⟩)) ∧ Jm w' ja (newJ m wd rs) ∧ ∀ b i, ja.d b i → w.heap.size ≤ b))
/-- a job that is being made -/
structure Nj (w : World) (J B : Nat) (v : Value) (fu : Nat) (xs : List In) (cs : Array Value) (V : World) : Prop where
  jb : V.heap[J]? = some (.cells cs 126 (0, 0))
  mb : Mb V B Im.m0 v fu
  cd : Cx V v xs
  bl : Below w.heap.size w V
section
variable {w : World} {J B fu : Nat} {v : Value} {xs : List In} {cs : Array Value} {V V' : World}
theorem Nj.up (h : Nj w J B v fu xs cs V) (hb : Below V.heap.size V V') : Nj w J B v fu xs cs V' :=
  ⟨(hb.block _ (lt_of_block h.jb)).trans h.jb, ⟨(hb.block _ h.mb.lt).trans h.mb.blk, h.mb.l8⟩, h.cd.keep (by obtain ⟨cur, hc⟩ := h.cd.typ; exact hb.block _ (lt_of_block hc)), h.bl.trans (hb.mono h.bl.size)⟩
theorem Nj.set (h : Nj w J B v fu xs cs V) (hJ : w.heap.size ≤ J) (o : Nat) (u : Value) : Nj w J B v fu xs (cs.setIfInBounds o u) (V.setCell ⟨J, o, none⟩ u) :=
  ⟨own_set V J o u _ _ _ h.jb, ⟨(Below.heap_setCell _ ⟨J, o, none⟩ _ B (CH.blk_ne h.mb.blk h.jb (by decide))).trans h.mb.blk, h.mb.l8⟩, h.cd.keep (by obtain ⟨cur, hc⟩ := h.cd.typ; exact Below.heap_setCell _ ⟨J, o, none⟩ _ _ (CH.blk_ne hc h.jb (by decide))), h.bl.setCell hJ u⟩
theorem Sb.setJ {b : Nat} {s : CH.Sn} (h : CH.Sb V b s none 0 0 0) (hn : b ≠ J) (o : Nat) (u : Value) : CH.Sb (V.setCell ⟨J, o, none⟩ u) b s none 0 0 0 :=
  ⟨(Below.heap_setCell _ ⟨J, o, none⟩ _ b hn).trans h.cb, h.rs.keep fun h0 => absurd h0 (by decide)⟩
end
theorem Kp.bel {G : Nat → Nat → Prop} {w V V' : World} (h : Below w.heap.size w V) (k : Kp G V V') (hG : ∀ b i, G b i → w.heap.size ≤ b) : Below w.heap.size w V' :=
  ⟨k.os.trans h.os, k.tape.trans h.tape, k.output.trans h.output, Nat.le_trans h.size k.size, fun b hb => (k.block b (Nat.lt_of_lt_of_le hb h.size) (fun i hi => absurd (hG b i hi) (Nat.not_le.2 hb))).trans (h.block b hb)⟩
set_option maxHeartbeats 8000000 in
theorem newJob_any (m : W.Wr.Ms) {wd rs : Nat} (hw : 1 ≤ wd ∧ wd ≤ 8) (hr : 1 ≤ rs ∧ rs ≤ 16) (hF : ∀ x ∈ (Pg.unpackS m.pr).1.2, x.Fits) (w : World) :
    Calls Tryz.prog 148 #[.agg (W.msgC m), .int .i64 (wd : Int), .int .i64 (rs : Int)] w (NjP m wd rs w) := by
  have HU := hide (fun V => unpack_any m.pr V)
  have HBz : Hid (Below w.heap.size w (w.alloc (.cells #[.int .i64 m.k, .int .i64 m.se, .int .i64 m.nu, .int .i64 m.jo, .int .i64 m.ba, .int .i64 m.ix, .int .i64 m.co, .int .i64 m.rc, .int .u64 (m.rb : Int), .string m.tx, .string m.pr] 67))) := hide (CH.below_alloc w _)
  have HMz : Hid (W.Mg (w.alloc (.cells #[.int .i64 m.k, .int .i64 m.se, .int .i64 m.nu, .int .i64 m.jo, .int .i64 m.ba, .int .i64 m.ix, .int .i64 m.co, .int .i64 m.rc, .int .u64 (m.rb : Int), .string m.tx, .string m.pr] 67)) w.heap.size m) := hide (heap_alloc_new w (.cells #[.int .i64 m.k, .int .i64 m.se, .int .i64 m.nu, .int .i64 m.jo, .int .i64 m.ba, .int .i64 m.ix, .int .i64 m.co, .int .i64 m.rc, .int .u64 (m.rb : Int), .string m.tx, .string m.pr] 67))
  unfold W.msgC
  by_cases hE : (Pg.unpackS m.pr).2 = 0
  · have hp := pok_un hF hE
    have HNw := hide (fun (V : World) (u : Value) (hC : Cd V u (Pg.unpackS m.pr).1.2) => newx_ok hF hC (chk_zz hp (unpack_chk hE)) hp.l1 hp.l2)
    have HOk := hide (newJ_ok hw hr hF hE)
    have HE := hide hE
    have HNS : Hid (∀ V : World, Calls Tryz.prog 186 #[.int .i64 (wd : Int), .int .i64 (rs : Int)] V fun e w' => e = .returned (.tuple #[.pointer (some ⟨V.heap.size, 0, none⟩), .int .i64 0]) ∧ CH.Sb w' V.heap.size (CH.newS wd rs) none 0 0 0 ∧ Below V.heap.size V w') := hide fun V => by
      refine (CH.snew_any V (x := (wd : Int)) (y := (rs : Int)) ⟨by omega, by omega⟩ ⟨by omega, by omega⟩).mono ?_
      rintro e w' (⟨h1, _⟩ | ⟨_, h2, h3, h4⟩)
      · exact absurd ⟨by omega, by omega, by omega, by omega⟩ h1
      · exact ⟨h2, h3, h4⟩
    rw [hE] at HU
    have HX : Hid ((newJ m wd rs).xs = (Pg.unpackS m.pr).1.2 ∧ (newJ m wd rs).fu = (Pg.unpackS m.pr).1.1) := hide ⟨rfl, rfl⟩
    have HJn : Hid (newJ m wd rs = { (⟨(Pg.unpackS m.pr).1.2, (Pg.unpackS m.pr).1.1, Im.m0, m.jo, m.ba, CH.newS wd rs, CH.newS wd rs⟩ : Jb) with ar := (CH.newS wd rs).put ⟨#[]⟩ }) := hide rfl
    have HArk : Hid ((CH.newS wd rs).ok) := hide (CH.newS_ok hw.1 hw.2 hr.1 hr.2)
    generalize (Pg.unpackS m.pr).1.2 = xs at *
    generalize (Pg.unpackS m.pr).1.1 = fu at *
    clear hE hp hF
    go_enter Tryz.func148, Tryz.ntmps148
    go_wp2_with fail
    refine (HU.out _).mono ?_
    rintro e w1 ⟨v, rfl, hrow, hb1⟩
    have hC1 : Cd w1 v xs := own_cd hrow
    obtain ⟨ad, cap, hv, _⟩ := id hC1
    subst hv
    have HB1 := hide (HBz.out.trans (hb1.mono HBz.out.size))
    have HM1 : Hid (W.Mg w1 w.heap.size m) := hide ((hb1.block _ (lt_of_block HMz.out)).trans HMz.out)
    obtain ⟨_, _, _, q3, q4, _, _, _, _, _, _⟩ := msg_cells HM1.out
    have hXl := lt_of_block HM1.out
    have hs1 : w.heap.size ≤ w1.heap.size := HB1.out.size
    have HC1 := hide hC1
    clear hrow hb1 HU HBz HMz hC1
    obtain ⟨o2, ho2⟩ : ∃ o2 : Obj, o2 = .cells #[.int .i64 (fu : Int), .slice ad xs.length cap] 62 := ⟨_, rfl⟩
    obtain ⟨o3, ho3⟩ : ∃ o3 : Obj, o3 = .cells #[.pointer none, .int .i64 m.jo, .int .i64 m.ba, .pointer none, .pointer none] 126 := ⟨_, rfl⟩
    have HB2 : Hid (Below w1.heap.size w1 ((w1.alloc o2).alloc o3)) := hide ((CH.below_alloc w1 o2).trans ((CH.below_alloc (w1.alloc o2) o3).mono (by simp)))
    have HJ2 : Hid (((w1.alloc o2).alloc o3).heap[w1.heap.size + 1]? = some o3) := hide (by have h1 := heap_alloc_new (w1.alloc o2) o3; rw [World.size_alloc] at h1; exact h1)
    have HN2 := hide (HNw.out _ _ (HC1.out.below HB2.out (Nat.le_refl _)))
    subst ho2; subst ho3
    clear HNw
    go_wp2_with fail
    refine HN2.out.mono ?_
    rintro e w3 ⟨B, v', rfl, hmb, hcx, hB, hcB, hb3⟩
    have HN3 : Hid (Nj w (w1.heap.size + 1) B v' fu xs #[.pointer none, .int .i64 m.jo, .int .i64 m.ba, .pointer none, .pointer none] w3) := hide ⟨(hb3.block _ (lt_of_block HJ2.out)).trans HJ2.out, hmb, hcx, HB1.out.trans ((HB2.out.trans (hb3.mono HB2.out.size)).mono hs1)⟩
    have hB' : w.heap.size ≤ B := by have := HB2.out.size; omega
    have hcB' : w.heap.size ≤ cxB v' := by have := HB2.out.size; omega
    obtain ⟨J, hJ⟩ : ∃ J, w1.heap.size + 1 = J := ⟨_, rfl⟩
    rw [hJ] at HN3
    have hJw : w.heap.size ≤ J := by omega
    have z3 := blk_z HN3.out.jb
    have j0 := cell_of (i := 0) HN3.out.jb rfl
    have hJl := lt_of_block HN3.out.jb
    have HN4 : Hid (Nj w J B v' fu xs #[.pointer (some ⟨B, 0, none⟩), .int .i64 m.jo, .int .i64 m.ba, .pointer none, .pointer none] (w3.setCell ⟨J, 0, none⟩ (.pointer (some ⟨B, 0, none⟩)))) := hide (HN3.out.set hJw 0 _)
    clear hmb hcx hb3 HN2 HJ2 HB2 HC1 q3 q4 HM1 HB1
    go_wp2_with fail
    try rw [hJ]
    generalize w3.setCell ⟨J, 0, none⟩ (.pointer (some ⟨B, 0, none⟩)) = W4 at *
    refine (HNS.out W4).mono ?_
    rintro e w5 ⟨rfl, hsL, hb5⟩
    have HN5 := hide (HN4.out.up hb5)
    obtain ⟨L, hL⟩ : ∃ L, W4.heap.size = L := ⟨_, rfl⟩
    have hLJ : L ≠ J := by have := lt_of_block HN4.out.jb; omega
    have hLw : w.heap.size ≤ L := by have := HN4.out.bl.size; omega
    rw [hL] at hsL ⊢
    have HL5 := hide hsL
    have z5 := blk_z HN5.out.jb
    have j3 := cell_of (i := 3) HN5.out.jb rfl
    have hJ5 := lt_of_block HN5.out.jb
    have HN6 : Hid (Nj w J B v' fu xs #[.pointer (some ⟨B, 0, none⟩), .int .i64 m.jo, .int .i64 m.ba, .pointer (some ⟨L, 0, none⟩), .pointer none] (w5.setCell ⟨J, 3, none⟩ (.pointer (some ⟨L, 0, none⟩)))) := hide (HN5.out.set hJw 3 _)
    have HL6 := hide (Sb.setJ HL5.out hLJ 3 (.pointer (some ⟨L, 0, none⟩)))
    clear hsL hb5 HL5 HN4 hL z3 j0 hJl
    go_wp2_with fail
    generalize w5.setCell ⟨J, 3, none⟩ (.pointer (some ⟨L, 0, none⟩)) = W6 at *
    refine (HNS.out W6).mono ?_
    rintro e w7 ⟨rfl, hsA, hb7⟩
    have HN7 := hide (HN6.out.up hb7)
    have HL7 := hide (HL6.out.below hb7)
    obtain ⟨A, hA⟩ : ∃ A, W6.heap.size = A := ⟨_, rfl⟩
    have hAJ : A ≠ J := by have := lt_of_block HN6.out.jb; omega
    have hLA : L ≠ A := by have := HL6.out.lt; omega
    have hAw : w.heap.size ≤ A := by have := HN6.out.bl.size; omega
    rw [hA] at hsA ⊢
    have HA7 := hide hsA
    have z7 := blk_z HN7.out.jb
    have j4 := cell_of (i := 4) HN7.out.jb rfl
    have hJ7 := lt_of_block HN7.out.jb
    have HN8 : Hid (Nj w J B v' fu xs #[.pointer (some ⟨B, 0, none⟩), .int .i64 m.jo, .int .i64 m.ba, .pointer (some ⟨L, 0, none⟩), .pointer (some ⟨A, 0, none⟩)] (w7.setCell ⟨J, 4, none⟩ (.pointer (some ⟨A, 0, none⟩)))) := hide (HN7.out.set hJw 4 _)
    have HL8 := hide (Sb.setJ HL7.out hLJ 4 (.pointer (some ⟨A, 0, none⟩)))
    have HA8 := hide (Sb.setJ HA7.out hAJ 4 (.pointer (some ⟨A, 0, none⟩)))
    have HJm : Hid (Jm (w7.setCell ⟨J, 4, none⟩ (.pointer (some ⟨A, 0, none⟩))) ⟨J, B, L, A, v', none, 0, 0, 0, none, 0, 0, 0⟩ ⟨xs, fu, Im.m0, m.jo, m.ba, CH.newS wd rs, CH.newS wd rs⟩) := hide ⟨HN8.out.jb, HN8.out.mb, HN8.out.cd, HL8.out, HA8.out, hLA, fun h => absurd (show (0 : Nat) < 0 from h) (by decide)⟩
    have HPt := hide (jput2 HJm.out HArk.out ⟨#[]⟩)
    have HDd : Hid (∀ b i, JA.d ⟨J, B, L, A, v', none, 0, 0, 0, none, 0, 0, 0⟩ b i → w.heap.size ≤ b) := hide (by
      rintro b i (e | e | e | e | e | ⟨e, k1, k2⟩ | ⟨e, k1, k2⟩)
      · exact e ▸ hJw
      · exact e ▸ hB'
      · exact e ▸ hLw
      · exact e ▸ hAw
      · exact e ▸ hcB'
      · exact absurd k2 (Nat.not_lt.2 k1)
      · exact absurd k2 (Nat.not_lt.2 k1))
    clear hsA hb7 HA7 HL7 HL6 HN6 HN5 hA z5 j3 hJ5
    go_wp2_with fail
    refine HPt.out.mono ?_
    rintro e w9 ⟨rfl, ja2, hjs⟩
    have HF : Hid (Below w.heap.size w w9 ∧ ja2.J = J ∧ Jm w9 ja2 (newJ m wd rs) ∧ ∀ b i, ja2.d b i → w.heap.size ≤ b) := hide ⟨Kp.bel HN8.out.bl hjs.kp (fun b i hg => HDd.out b i (JA.g_d hg)), hjs.J, by rw [HJn.out]; exact hjs.jm, fun b i hd => (hjs.d b i hd).elim (HDd.out b i) (fun h9 => Nat.le_trans HN8.out.bl.size h9)⟩
    clear hjs HPt
    go_wp2_with fail
    go_ret
    exact ⟨HF.out.1, .inr ⟨HE.out, ja2, by rw [HF.out.2.1]; rfl, HF.out.2.2.1, HF.out.2.2.2⟩⟩
  · have HE := hide hE
    have tE : ((Pg.unpackS m.pr).2 != 0) = true := by simpa using hE
    generalize (Pg.unpackS m.pr).2 = E at HU tE
    clear hE
    go_enter Tryz.func148, Tryz.ntmps148
    go_wp2_with fail
    refine (HU.out _).mono ?_
    rintro e w1 ⟨v, rfl, hrow, hb1⟩
    obtain ⟨ad, cap, hv⟩ := CH.own_slice hrow
    subst hv
    have HB1 := hide (HBz.out.trans (hb1.mono HBz.out.size))
    clear hrow hb1 HU
    go_wp2_with fail
    go_ret
    exact ⟨HB1.out.trans ((CH.below_alloc w1 _).mono HB1.out.size), .inl ⟨HE.out, rfl⟩⟩
end Go.Proofs.YtkfnedhllfdghaaGreatDoor.RN
end

section
namespace Go.Proofs.YtkfnedhllfdghaaGreatDoor.RN
open Go.RowKit Go.Shelf
set_option maxRecDepth 20000

/-- a job is taken -/
theorem St.take {w w2 : World} {a : RA} {r : Rn} {b : JA} {j : Jb} (h : Rm w a r) (hb : Below w.heap.size w w2) (hj : Jm w2 b j) (hd : ∀ x i, b.d x i → w.heap.size ≤ x) :
    St w a r (w2.setCell ⟨a.R, 6, none⟩ (.pointer (some ⟨b.J, 0, none⟩))) { a with ja := b } { r with j := some j } := by
  have h2 := h.below hb
  have kp2 : Kp (fun x _ => x = a.R) w2 (w2.setCell ⟨a.R, 6, none⟩ (.pointer (some ⟨b.J, 0, none⟩))) := Kp.of_on (on_set w2 a.R 6 _) h2.rb (by decide) (fun _ => rfl)
  have hR := lt_of_block h.rb
  refine St.of h ((Kp.of_below (G := a.g r) hb).trans kp2 (fun x i e => .inl (.inl e))) (own_set w2 a.R 6 _ _ _ _ h2.rb) ((kp2.block _ h2.cb.lt (fun i e => CH.blk_ne h2.cb h2.rb (by decide) e)).trans h2.cb) (fun k hk => ?_) (CH.own_keep h2.tl (fun g hg => ?_)) rfl rfl (fun x e => .inl e) (fun k x i hk hg => ?_) (fun k x i hk hg => .inr (hd x i hg))
  · cases hk
    exact hj.kp kp2 (fun x i hx e => by have := hd x i hx; omega)
  · obtain ⟨cs', hc⟩ := own_blk h2.tl hg
    exact kp2.block _ (lt_of_block hc) (fun i e => CH.blk_ne hc h2.rb (by decide) e)
  · cases hk
    exact .inr (hd x i (JA.g_d hg))
/-- an offer comes -/
def Rn.offd (r : Rn) (m : W.Wr.Ms) : Rn := if ((r.c.hear (smOf m)).e == 3) = true ∧ r.j = none ∧ (Pg.unpackS m.pr).2 = 0 then { r with c := (r.c.hear (smOf m)).c, j := some (newJ m r.wd r.rs) } else { r with c := (r.c.hear (smOf m)).c }
theorem set_far {V : World} {R o k : Nat} {u v : Value} (h : V.cell? ⟨R, k, none⟩ = some v) (hn : k ≠ o) : (V.setCell ⟨R, o, none⟩ u).cell? ⟨R, k, none⟩ = some v := by
  rw [World.cell?_setCell_other _ _ _ _ (by intro e; injection e with _ e2 _; exact hn e2.symm)]
  exact h
structure Hz (a : RA) (r : Rn) (X : Nat) (m : W.Wr.Ms) (V : World) : Prop where
  c2 : V.cell? ⟨a.R, 2, none⟩ = some (.int .i64 (r.wd : Int))
  c3 : V.cell? ⟨a.R, 3, none⟩ = some (.int .i64 (r.rs : Int))
  mg : W.Mg V X m
section
variable {w : World} {a : RA} {r : Rn}
set_option maxHeartbeats 8000000 in
theorem offered_any (h : Rm w a r) (hk : r.ok) (m : W.Wr.Ms) (hF : ∀ x ∈ (Pg.unpackS m.pr).1.2, x.Fits) :
    Calls Tryz.prog 105 #[.pointer (some ⟨a.R, 0, none⟩), .agg (W.msgC m)] w fun e w' => e = .returned (.tuple #[]) ∧ ∃ a', St w a r w' a' (r.offd m) := by
  have HNj := hide (fun V => newJob_any m ⟨hk.w1, hk.w8⟩ ⟨hk.r1, hk.r2⟩ hF V)
  unfold W.msgC at HNj
  cases te : ((r.c.hear (smOf m)).e == 3) with
  | false =>
    have HE : Hid (r.offd m = { r with c := (r.c.hear (smOf m)).c }) := hide (if_neg (fun hc => by rw [te] at hc; cases hc.1))
    have HHr := hide (fun (V : World) (hb : Below w.heap.size w V) => SE.hear_any hk.c (h.below hb).cb (smOf m))
    rw [smOf_c] at HHr
    unfold W.msgC at HHr ⊢
    have HH := hide h
    obtain ⟨pj, hp0, hp1, hp2⟩ := jp_ptr a.ja r.j
    have c5 := h.c5
    have c6 := h.c6
    rw [hp0] at c6
    have hlt := lt_of_block h.rb
    have hCl := h.cb.lt
    have hRC : a.R ≠ a.C := CH.blk_ne h.rb h.cb (by decide)
    have HB0 : Hid (Below w.heap.size w (w.alloc (.cells #[.int .i64 m.k, .int .i64 m.se, .int .i64 m.nu, .int .i64 m.jo, .int .i64 m.ba, .int .i64 m.ix, .int .i64 m.co, .int .i64 m.rc, .int .u64 (m.rb : Int), .string m.tx, .string m.pr] 67)).drew) := hide (CH.below_drew (CH.below_alloc w _))
    have HX0 : Hid (Hx a pj w.heap.size m (w.alloc (.cells #[.int .i64 m.k, .int .i64 m.se, .int .i64 m.nu, .int .i64 m.jo, .int .i64 m.ba, .int .i64 m.ix, .int .i64 m.co, .int .i64 m.rc, .int .u64 (m.rb : Int), .string m.tx, .string m.pr] 67)).drew) := hide ⟨(HB0.out.cell (p := ⟨a.R, 5, none⟩) hlt).trans c5, (HB0.out.cell (p := ⟨a.R, 6, none⟩) hlt).trans c6, heap_alloc_new w (.cells #[.int .i64 m.k, .int .i64 m.se, .int .i64 m.nu, .int .i64 m.jo, .int .i64 m.ba, .int .i64 m.ix, .int .i64 m.co, .int .i64 m.rc, .int .u64 (m.rb : Int), .string m.tx, .string m.pr] 67)⟩
    have HP1 := hide hp1
    have HP2 := hide hp2
    clear h hk hF hp0 hp1 hp2 c5 c6
    clear HNj
    go_enter Tryz.func105, Tryz.ntmps105
    go_upto_region 1 with fail
    obtain ⟨V0, hV0⟩ : ∃ V0, w.alloc (.cells #[.int .i64 m.k, .int .i64 m.se, .int .i64 m.nu, .int .i64 m.jo, .int .i64 m.ba, .int .i64 m.ix, .int .i64 m.co, .int .i64 m.rc, .int .u64 (m.rb : Int), .string m.tx, .string m.pr] 67) = V0 := ⟨_, rfl⟩
    rw [hV0] at HB0 HX0 ⊢
    clear hV0
    refine wp_region_held_drew (S := fun V => Hx a pj w.heap.size m V) (by kernel_rfl) (HX0.out) (fun hHeld => ?_)
    refine wpAnyH_take (i := 0) (v := .pointer (some ⟨a.R, 0, none⟩)) rfl (by kernel_rfl) (by kernel_rfl) (by kernel_rfl) (fun _ _ _ h => h) (Or.inl ⟨by kernel_rfl, fun w1 hSw => by clear hHeld; have k5 := hSw.c5; have k6 := hSw.c6; obtain ⟨q0, q1, q2, q3, q4, q5, q6, q7, q8, q9, q10⟩ := msg_cells hSw.mg; go_simp⟩) hHeld ?_
    try simp only [Act.put]
    try simp only [List.getElem_toArray]
    try simp only [List.getElem_cons_succ]
    try simp only [List.getElem_cons_zero]
    try simp only [List.setIfInBounds_toArray]
    try simp only [List.set_cons_succ, List.set_cons_zero]
    refine wpAnyH_take (i := 1) (v := .pointer (some ⟨a.R, 0, none⟩)) rfl (by kernel_rfl) (by kernel_rfl) (by kernel_rfl) (fun _ _ _ h => h) (Or.inl ⟨by kernel_rfl, fun w1 hSw => by clear hHeld; have k5 := hSw.c5; have k6 := hSw.c6; obtain ⟨q0, q1, q2, q3, q4, q5, q6, q7, q8, q9, q10⟩ := msg_cells hSw.mg; go_simp⟩) hHeld ?_
    try simp only [Act.put]
    try simp only [List.getElem_toArray]
    try simp only [List.getElem_cons_succ]
    try simp only [List.getElem_cons_zero]
    try simp only [List.setIfInBounds_toArray]
    try simp only [List.set_cons_succ, List.set_cons_zero]
    refine wpAnyH_take (i := 2) (v := .pointer (some ⟨a.R, 5, none⟩)) rfl (by kernel_rfl) (by kernel_rfl) (by kernel_rfl) (fun _ _ _ h => h) (Or.inl ⟨by kernel_rfl, fun w1 hSw => by clear hHeld; have k5 := hSw.c5; have k6 := hSw.c6; obtain ⟨q0, q1, q2, q3, q4, q5, q6, q7, q8, q9, q10⟩ := msg_cells hSw.mg; go_simp⟩) hHeld ?_
    try simp only [Act.put]
    try simp only [List.getElem_toArray]
    try simp only [List.getElem_cons_succ]
    try simp only [List.getElem_cons_zero]
    try simp only [List.setIfInBounds_toArray]
    try simp only [List.set_cons_succ, List.set_cons_zero]
    refine wpAnyH_take (i := 3) (v := .pointer (some ⟨a.C, 0, none⟩)) rfl (by kernel_rfl) (by kernel_rfl) (by kernel_rfl) (fun _ _ _ h => h) (Or.inl ⟨by kernel_rfl, fun w1 hSw => by clear hHeld; have k5 := hSw.c5; have k6 := hSw.c6; obtain ⟨q0, q1, q2, q3, q4, q5, q6, q7, q8, q9, q10⟩ := msg_cells hSw.mg; go_simp⟩) hHeld ?_
    try simp only [Act.put]
    try simp only [List.getElem_toArray]
    try simp only [List.getElem_cons_succ]
    try simp only [List.getElem_cons_zero]
    try simp only [List.setIfInBounds_toArray]
    try simp only [List.set_cons_succ, List.set_cons_zero]
    refine wpAnyH_take (i := 4) (v := .agg #[.int .i64 m.k, .int .i64 m.se, .int .i64 m.nu, .int .i64 m.jo, .int .i64 m.ba, .int .i64 m.ix, .int .i64 m.co, .int .i64 m.rc, .int .u64 (m.rb : Int), .string m.tx, .string m.pr]) rfl (by kernel_rfl) (by kernel_rfl) (by kernel_rfl) (fun _ _ _ h => h) (Or.inl ⟨by kernel_rfl, fun w1 hSw => by clear hHeld; have k5 := hSw.c5; have k6 := hSw.c6; obtain ⟨q0, q1, q2, q3, q4, q5, q6, q7, q8, q9, q10⟩ := msg_cells hSw.mg; go_simp⟩) hHeld ?_
    try simp only [Act.put]
    try simp only [List.getElem_toArray]
    try simp only [List.getElem_cons_succ]
    try simp only [List.getElem_cons_zero]
    try simp only [List.setIfInBounds_toArray]
    try simp only [List.set_cons_succ, List.set_cons_zero]
    refine wpAnyH_ready (rs := [5]) (by kernel_rfl) (by simp) ?_
    refine AllReadyH.cons rfl (fun K hK => ?_) AllReadyH.nil
    go_simp
    refine (HHr.out _ HB0.out).mono ?_
    rintro e V2 ⟨rfl, hc, ho⟩
    have HS2 := hide ((St.call (HH.out.below HB0.out) ho hc).pre HB0.out)
    have HX2 : Hid (Hx a pj w.heap.size m V2) := hide ⟨(World.cell?_of_block (a := ⟨a.R, 5, none⟩) (ho.block a.R (by have := HB0.out.size; omega) hRC)).trans HX0.out.c5, (World.cell?_of_block (a := ⟨a.R, 6, none⟩) (ho.block a.R (by have := HB0.out.size; omega) hRC)).trans HX0.out.c6, (ho.block w.heap.size (lt_of_block HX0.out.mg) (by omega)).trans HX0.out.mg⟩
    clear hc ho
    refine hK.out _ _ (HX2.out) (fun hHeld => ?_)
    clear hK K
    try simp only [Act.put]
    try simp only [List.getElem_toArray]
    try simp only [List.getElem_cons_succ]
    try simp only [List.getElem_cons_zero]
    try simp only [List.setIfInBounds_toArray]
    try simp only [List.set_cons_succ, List.set_cons_zero]
    refine wpAnyH_take (i := 6) (v := .bool false) rfl (by kernel_rfl) (by kernel_rfl) (by kernel_rfl) (fun _ _ _ h => h) (Or.inl ⟨by kernel_rfl, fun w1 hSw => by clear hHeld; have k5 := hSw.c5; have k6 := hSw.c6; obtain ⟨q0, q1, q2, q3, q4, q5, q6, q7, q8, q9, q10⟩ := msg_cells hSw.mg; go_simp⟩) hHeld ?_
    try simp only [Act.put]
    try simp only [List.getElem_toArray]
    try simp only [List.getElem_cons_succ]
    try simp only [List.getElem_cons_zero]
    try simp only [List.setIfInBounds_toArray]
    try simp only [List.set_cons_succ, List.set_cons_zero]
    refine wpAnyH_take (i := 7) (v := .bool false) rfl (by kernel_rfl) (by kernel_rfl) (by kernel_rfl) (fun _ _ _ h => h) (Or.inl ⟨by kernel_rfl, fun w1 hSw => by clear hHeld; have k5 := hSw.c5; have k6 := hSw.c6; obtain ⟨q0, q1, q2, q3, q4, q5, q6, q7, q8, q9, q10⟩ := msg_cells hSw.mg; go_simp⟩) hHeld ?_
    try simp only [Act.put]
    try simp only [List.getElem_toArray]
    try simp only [List.getElem_cons_succ]
    try simp only [List.getElem_cons_zero]
    try simp only [List.setIfInBounds_toArray]
    try simp only [List.set_cons_succ, List.set_cons_zero]
    refine wpAnyH_take (i := 8) (v := undef) rfl (by kernel_rfl) (by kernel_rfl) (by kernel_rfl) (fun _ _ _ h => h) (Or.inr ⟨by kernel_rfl, rfl⟩) hHeld ?_
    try simp only [Act.put]
    try simp only [List.getElem_toArray]
    try simp only [List.getElem_cons_succ]
    try simp only [List.getElem_cons_zero]
    try simp only [List.setIfInBounds_toArray]
    try simp only [List.set_cons_succ, List.set_cons_zero]
    refine wpAnyH_take (i := 9) (v := undef) rfl (by kernel_rfl) (by kernel_rfl) (by kernel_rfl) (fun _ _ _ h => h) (Or.inr ⟨by kernel_rfl, rfl⟩) hHeld ?_
    try simp only [Act.put]
    try simp only [List.getElem_toArray]
    try simp only [List.getElem_cons_succ]
    try simp only [List.getElem_cons_zero]
    try simp only [List.setIfInBounds_toArray]
    try simp only [List.set_cons_succ, List.set_cons_zero]
    refine wpAnyH_take (i := 10) (v := undef) rfl (by kernel_rfl) (by kernel_rfl) (by kernel_rfl) (fun _ _ _ h => h) (Or.inr ⟨by kernel_rfl, rfl⟩) hHeld ?_
    try simp only [Act.put]
    try simp only [List.getElem_toArray]
    try simp only [List.getElem_cons_succ]
    try simp only [List.getElem_cons_zero]
    try simp only [List.setIfInBounds_toArray]
    try simp only [List.set_cons_succ, List.set_cons_zero]
    refine wpAnyH_take (i := 11) (v := undef) rfl (by kernel_rfl) (by kernel_rfl) (by kernel_rfl) (fun _ _ _ h => h) (Or.inr ⟨by kernel_rfl, rfl⟩) hHeld ?_
    try simp only [Act.put]
    try simp only [List.getElem_toArray]
    try simp only [List.getElem_cons_succ]
    try simp only [List.getElem_cons_zero]
    try simp only [List.setIfInBounds_toArray]
    try simp only [List.set_cons_succ, List.set_cons_zero]
    refine wpAnyH_take (i := 12) (v := undef) rfl (by kernel_rfl) (by kernel_rfl) (by kernel_rfl) (fun _ _ _ h => h) (Or.inr ⟨by kernel_rfl, rfl⟩) hHeld ?_
    try simp only [Act.put]
    try simp only [List.getElem_toArray]
    try simp only [List.getElem_cons_succ]
    try simp only [List.getElem_cons_zero]
    try simp only [List.setIfInBounds_toArray]
    try simp only [List.set_cons_succ, List.set_cons_zero]
    refine wpAnyH_take (i := 13) (v := .bool false) rfl (by kernel_rfl) (by kernel_rfl) (by kernel_rfl) (fun _ _ _ h => h) (Or.inl ⟨by kernel_rfl, fun w1 hSw => by clear hHeld; have k5 := hSw.c5; have k6 := hSw.c6; obtain ⟨q0, q1, q2, q3, q4, q5, q6, q7, q8, q9, q10⟩ := msg_cells hSw.mg; go_simp⟩) hHeld ?_
    try simp only [Act.put]
    try simp only [List.getElem_toArray]
    try simp only [List.getElem_cons_succ]
    try simp only [List.getElem_cons_zero]
    try simp only [List.setIfInBounds_toArray]
    try simp only [List.set_cons_succ, List.set_cons_zero]
    refine wpAnyH_done (by kernel_rfl) ?_ _
    go_wp2_with fail
    go_end0
    exact ⟨rfl, a, by rw [HE.out]; exact HS2.out⟩
  | true =>
    cases hj : r.j with
    | some j =>
      have HE : Hid (r.offd m = { r with c := (r.c.hear (smOf m)).c }) := hide (if_neg (fun hc => by rw [hj] at hc; cases hc.2.1))
      have HHr := hide (fun (V : World) (hb : Below w.heap.size w V) => SE.hear_any hk.c (h.below hb).cb (smOf m))
      rw [smOf_c] at HHr
      unfold W.msgC at HHr ⊢
      have HH := hide h
      obtain ⟨pj, hp0, hp1, hp2⟩ := jp_ptr a.ja r.j
      have c5 := h.c5
      have c6 := h.c6
      rw [hp0] at c6
      have hlt := lt_of_block h.rb
      have hCl := h.cb.lt
      have hRC : a.R ≠ a.C := CH.blk_ne h.rb h.cb (by decide)
      have HB0 : Hid (Below w.heap.size w (w.alloc (.cells #[.int .i64 m.k, .int .i64 m.se, .int .i64 m.nu, .int .i64 m.jo, .int .i64 m.ba, .int .i64 m.ix, .int .i64 m.co, .int .i64 m.rc, .int .u64 (m.rb : Int), .string m.tx, .string m.pr] 67)).drew) := hide (CH.below_drew (CH.below_alloc w _))
      have HX0 : Hid (Hx a pj w.heap.size m (w.alloc (.cells #[.int .i64 m.k, .int .i64 m.se, .int .i64 m.nu, .int .i64 m.jo, .int .i64 m.ba, .int .i64 m.ix, .int .i64 m.co, .int .i64 m.rc, .int .u64 (m.rb : Int), .string m.tx, .string m.pr] 67)).drew) := hide ⟨(HB0.out.cell (p := ⟨a.R, 5, none⟩) hlt).trans c5, (HB0.out.cell (p := ⟨a.R, 6, none⟩) hlt).trans c6, heap_alloc_new w (.cells #[.int .i64 m.k, .int .i64 m.se, .int .i64 m.nu, .int .i64 m.jo, .int .i64 m.ba, .int .i64 m.ix, .int .i64 m.co, .int .i64 m.rc, .int .u64 (m.rb : Int), .string m.tx, .string m.pr] 67)⟩
      have HP1 := hide hp1
      have HP2 := hide hp2
      clear h hk hF hp0 hp1 hp2 c5 c6
      have e0 := HP2.out j hj
      subst e0
      clear HNj hj
      go_enter Tryz.func105, Tryz.ntmps105
      go_upto_region 1 with fail
      obtain ⟨V0, hV0⟩ : ∃ V0, w.alloc (.cells #[.int .i64 m.k, .int .i64 m.se, .int .i64 m.nu, .int .i64 m.jo, .int .i64 m.ba, .int .i64 m.ix, .int .i64 m.co, .int .i64 m.rc, .int .u64 (m.rb : Int), .string m.tx, .string m.pr] 67) = V0 := ⟨_, rfl⟩
      rw [hV0] at HB0 HX0 ⊢
      clear hV0
      refine wp_region_held_drew (S := fun V => Hx a (some ⟨a.ja.J, 0, none⟩) w.heap.size m V) (by kernel_rfl) (HX0.out) (fun hHeld => ?_)
      refine wpAnyH_take (i := 0) (v := .pointer (some ⟨a.R, 0, none⟩)) rfl (by kernel_rfl) (by kernel_rfl) (by kernel_rfl) (fun _ _ _ h => h) (Or.inl ⟨by kernel_rfl, fun w1 hSw => by clear hHeld; have k5 := hSw.c5; have k6 := hSw.c6; obtain ⟨q0, q1, q2, q3, q4, q5, q6, q7, q8, q9, q10⟩ := msg_cells hSw.mg; go_simp⟩) hHeld ?_
      try simp only [Act.put]
      try simp only [List.getElem_toArray]
      try simp only [List.getElem_cons_succ]
      try simp only [List.getElem_cons_zero]
      try simp only [List.setIfInBounds_toArray]
      try simp only [List.set_cons_succ, List.set_cons_zero]
      refine wpAnyH_take (i := 1) (v := .pointer (some ⟨a.R, 0, none⟩)) rfl (by kernel_rfl) (by kernel_rfl) (by kernel_rfl) (fun _ _ _ h => h) (Or.inl ⟨by kernel_rfl, fun w1 hSw => by clear hHeld; have k5 := hSw.c5; have k6 := hSw.c6; obtain ⟨q0, q1, q2, q3, q4, q5, q6, q7, q8, q9, q10⟩ := msg_cells hSw.mg; go_simp⟩) hHeld ?_
      try simp only [Act.put]
      try simp only [List.getElem_toArray]
      try simp only [List.getElem_cons_succ]
      try simp only [List.getElem_cons_zero]
      try simp only [List.setIfInBounds_toArray]
      try simp only [List.set_cons_succ, List.set_cons_zero]
      refine wpAnyH_take (i := 2) (v := .pointer (some ⟨a.R, 5, none⟩)) rfl (by kernel_rfl) (by kernel_rfl) (by kernel_rfl) (fun _ _ _ h => h) (Or.inl ⟨by kernel_rfl, fun w1 hSw => by clear hHeld; have k5 := hSw.c5; have k6 := hSw.c6; obtain ⟨q0, q1, q2, q3, q4, q5, q6, q7, q8, q9, q10⟩ := msg_cells hSw.mg; go_simp⟩) hHeld ?_
      try simp only [Act.put]
      try simp only [List.getElem_toArray]
      try simp only [List.getElem_cons_succ]
      try simp only [List.getElem_cons_zero]
      try simp only [List.setIfInBounds_toArray]
      try simp only [List.set_cons_succ, List.set_cons_zero]
      refine wpAnyH_take (i := 3) (v := .pointer (some ⟨a.C, 0, none⟩)) rfl (by kernel_rfl) (by kernel_rfl) (by kernel_rfl) (fun _ _ _ h => h) (Or.inl ⟨by kernel_rfl, fun w1 hSw => by clear hHeld; have k5 := hSw.c5; have k6 := hSw.c6; obtain ⟨q0, q1, q2, q3, q4, q5, q6, q7, q8, q9, q10⟩ := msg_cells hSw.mg; go_simp⟩) hHeld ?_
      try simp only [Act.put]
      try simp only [List.getElem_toArray]
      try simp only [List.getElem_cons_succ]
      try simp only [List.getElem_cons_zero]
      try simp only [List.setIfInBounds_toArray]
      try simp only [List.set_cons_succ, List.set_cons_zero]
      refine wpAnyH_take (i := 4) (v := .agg #[.int .i64 m.k, .int .i64 m.se, .int .i64 m.nu, .int .i64 m.jo, .int .i64 m.ba, .int .i64 m.ix, .int .i64 m.co, .int .i64 m.rc, .int .u64 (m.rb : Int), .string m.tx, .string m.pr]) rfl (by kernel_rfl) (by kernel_rfl) (by kernel_rfl) (fun _ _ _ h => h) (Or.inl ⟨by kernel_rfl, fun w1 hSw => by clear hHeld; have k5 := hSw.c5; have k6 := hSw.c6; obtain ⟨q0, q1, q2, q3, q4, q5, q6, q7, q8, q9, q10⟩ := msg_cells hSw.mg; go_simp⟩) hHeld ?_
      try simp only [Act.put]
      try simp only [List.getElem_toArray]
      try simp only [List.getElem_cons_succ]
      try simp only [List.getElem_cons_zero]
      try simp only [List.setIfInBounds_toArray]
      try simp only [List.set_cons_succ, List.set_cons_zero]
      refine wpAnyH_ready (rs := [5]) (by kernel_rfl) (by simp) ?_
      refine AllReadyH.cons rfl (fun K hK => ?_) AllReadyH.nil
      go_simp
      refine (HHr.out _ HB0.out).mono ?_
      rintro e V2 ⟨rfl, hc, ho⟩
      have HS2 := hide ((St.call (HH.out.below HB0.out) ho hc).pre HB0.out)
      have HX2 : Hid (Hx a (some ⟨a.ja.J, 0, none⟩) w.heap.size m V2) := hide ⟨(World.cell?_of_block (a := ⟨a.R, 5, none⟩) (ho.block a.R (by have := HB0.out.size; omega) hRC)).trans HX0.out.c5, (World.cell?_of_block (a := ⟨a.R, 6, none⟩) (ho.block a.R (by have := HB0.out.size; omega) hRC)).trans HX0.out.c6, (ho.block w.heap.size (lt_of_block HX0.out.mg) (by omega)).trans HX0.out.mg⟩
      clear hc ho
      refine hK.out _ _ (HX2.out) (fun hHeld => ?_)
      clear hK K
      try simp only [Act.put]
      try simp only [List.getElem_toArray]
      try simp only [List.getElem_cons_succ]
      try simp only [List.getElem_cons_zero]
      try simp only [List.setIfInBounds_toArray]
      try simp only [List.set_cons_succ, List.set_cons_zero]
      refine wpAnyH_take (i := 6) (v := .bool true) rfl (by kernel_rfl) (by kernel_rfl) (by kernel_rfl) (fun _ _ _ h => h) (Or.inl ⟨by kernel_rfl, fun w1 hSw => by clear hHeld; have k5 := hSw.c5; have k6 := hSw.c6; obtain ⟨q0, q1, q2, q3, q4, q5, q6, q7, q8, q9, q10⟩ := msg_cells hSw.mg; go_simp⟩) hHeld ?_
      try simp only [Act.put]
      try simp only [List.getElem_toArray]
      try simp only [List.getElem_cons_succ]
      try simp only [List.getElem_cons_zero]
      try simp only [List.setIfInBounds_toArray]
      try simp only [List.set_cons_succ, List.set_cons_zero]
      refine wpAnyH_take (i := 7) (v := .bool true) rfl (by kernel_rfl) (by kernel_rfl) (by kernel_rfl) (fun _ _ _ h => h) (Or.inl ⟨by kernel_rfl, fun w1 hSw => by clear hHeld; have k5 := hSw.c5; have k6 := hSw.c6; obtain ⟨q0, q1, q2, q3, q4, q5, q6, q7, q8, q9, q10⟩ := msg_cells hSw.mg; go_simp⟩) hHeld ?_
      try simp only [Act.put]
      try simp only [List.getElem_toArray]
      try simp only [List.getElem_cons_succ]
      try simp only [List.getElem_cons_zero]
      try simp only [List.setIfInBounds_toArray]
      try simp only [List.set_cons_succ, List.set_cons_zero]
      refine wpAnyH_take (i := 8) (v := .pointer (some ⟨a.R, 0, none⟩)) rfl (by kernel_rfl) (by kernel_rfl) (by kernel_rfl) (fun _ _ _ h => h) (Or.inl ⟨by kernel_rfl, fun w1 hSw => by clear hHeld; have k5 := hSw.c5; have k6 := hSw.c6; obtain ⟨q0, q1, q2, q3, q4, q5, q6, q7, q8, q9, q10⟩ := msg_cells hSw.mg; go_simp⟩) hHeld ?_
      try simp only [Act.put]
      try simp only [List.getElem_toArray]
      try simp only [List.getElem_cons_succ]
      try simp only [List.getElem_cons_zero]
      try simp only [List.setIfInBounds_toArray]
      try simp only [List.set_cons_succ, List.set_cons_zero]
      refine wpAnyH_take (i := 9) (v := .pointer (some ⟨a.R, 0, none⟩)) rfl (by kernel_rfl) (by kernel_rfl) (by kernel_rfl) (fun _ _ _ h => h) (Or.inl ⟨by kernel_rfl, fun w1 hSw => by clear hHeld; have k5 := hSw.c5; have k6 := hSw.c6; obtain ⟨q0, q1, q2, q3, q4, q5, q6, q7, q8, q9, q10⟩ := msg_cells hSw.mg; go_simp⟩) hHeld ?_
      try simp only [Act.put]
      try simp only [List.getElem_toArray]
      try simp only [List.getElem_cons_succ]
      try simp only [List.getElem_cons_zero]
      try simp only [List.setIfInBounds_toArray]
      try simp only [List.set_cons_succ, List.set_cons_zero]
      refine wpAnyH_take (i := 10) (v := .pointer (some ⟨a.R, 6, none⟩)) rfl (by kernel_rfl) (by kernel_rfl) (by kernel_rfl) (fun _ _ _ h => h) (Or.inl ⟨by kernel_rfl, fun w1 hSw => by clear hHeld; have k5 := hSw.c5; have k6 := hSw.c6; obtain ⟨q0, q1, q2, q3, q4, q5, q6, q7, q8, q9, q10⟩ := msg_cells hSw.mg; go_simp⟩) hHeld ?_
      try simp only [Act.put]
      try simp only [List.getElem_toArray]
      try simp only [List.getElem_cons_succ]
      try simp only [List.getElem_cons_zero]
      try simp only [List.setIfInBounds_toArray]
      try simp only [List.set_cons_succ, List.set_cons_zero]
      refine wpAnyH_take (i := 11) (v := .pointer (some ⟨a.ja.J, 0, none⟩)) rfl (by kernel_rfl) (by kernel_rfl) (by kernel_rfl) (fun _ _ _ h => h) (Or.inl ⟨by kernel_rfl, fun w1 hSw => by clear hHeld; have k5 := hSw.c5; have k6 := hSw.c6; obtain ⟨q0, q1, q2, q3, q4, q5, q6, q7, q8, q9, q10⟩ := msg_cells hSw.mg; go_simp⟩) hHeld ?_
      try simp only [Act.put]
      try simp only [List.getElem_toArray]
      try simp only [List.getElem_cons_succ]
      try simp only [List.getElem_cons_zero]
      try simp only [List.setIfInBounds_toArray]
      try simp only [List.set_cons_succ, List.set_cons_zero]
      refine wpAnyH_take (i := 12) (v := .bool false) rfl (by kernel_rfl) (by kernel_rfl) (by kernel_rfl) (fun _ _ _ h => h) (Or.inl ⟨by kernel_rfl, fun w1 hSw => by clear hHeld; have k5 := hSw.c5; have k6 := hSw.c6; obtain ⟨q0, q1, q2, q3, q4, q5, q6, q7, q8, q9, q10⟩ := msg_cells hSw.mg; go_simp⟩) hHeld ?_
      try simp only [Act.put]
      try simp only [List.getElem_toArray]
      try simp only [List.getElem_cons_succ]
      try simp only [List.getElem_cons_zero]
      try simp only [List.setIfInBounds_toArray]
      try simp only [List.set_cons_succ, List.set_cons_zero]
      refine wpAnyH_take (i := 13) (v := .bool false) rfl (by kernel_rfl) (by kernel_rfl) (by kernel_rfl) (fun _ _ _ h => h) (Or.inl ⟨by kernel_rfl, fun w1 hSw => by clear hHeld; have k5 := hSw.c5; have k6 := hSw.c6; obtain ⟨q0, q1, q2, q3, q4, q5, q6, q7, q8, q9, q10⟩ := msg_cells hSw.mg; go_simp⟩) hHeld ?_
      try simp only [Act.put]
      try simp only [List.getElem_toArray]
      try simp only [List.getElem_cons_succ]
      try simp only [List.getElem_cons_zero]
      try simp only [List.setIfInBounds_toArray]
      try simp only [List.set_cons_succ, List.set_cons_zero]
      refine wpAnyH_done (by kernel_rfl) ?_ _
      go_wp2_with fail
      go_end0
      exact ⟨rfl, a, by rw [HE.out]; exact HS2.out⟩
    | none =>
      have HEo : Hid ((Pg.unpackS m.pr).2 = 0 → r.offd m = { r with c := (r.c.hear (smOf m)).c, j := some (newJ m r.wd r.rs) }) := hide (fun h0 => if_pos ⟨te, hj, h0⟩)
      have HEn : Hid ((Pg.unpackS m.pr).2 ≠ 0 → r.offd m = { r with c := (r.c.hear (smOf m)).c, j := none }) := hide (fun h0 => by have h1 : r.offd m = { r with c := (r.c.hear (smOf m)).c } := if_neg (fun hc => h0 hc.2.2); rw [h1, hj])
      have HHr := hide (fun (V : World) (hb : Below w.heap.size w V) => SE.hear_any hk.c (h.below hb).cb (smOf m))
      rw [smOf_c] at HHr
      unfold W.msgC at HHr ⊢
      have HH := hide h
      obtain ⟨pj, hp0, hp1, hp2⟩ := jp_ptr a.ja r.j
      have c5 := h.c5
      have c6 := h.c6
      rw [hp0] at c6
      have hlt := lt_of_block h.rb
      have hCl := h.cb.lt
      have hRC : a.R ≠ a.C := CH.blk_ne h.rb h.cb (by decide)
      have HB0 : Hid (Below w.heap.size w (w.alloc (.cells #[.int .i64 m.k, .int .i64 m.se, .int .i64 m.nu, .int .i64 m.jo, .int .i64 m.ba, .int .i64 m.ix, .int .i64 m.co, .int .i64 m.rc, .int .u64 (m.rb : Int), .string m.tx, .string m.pr] 67)).drew) := hide (CH.below_drew (CH.below_alloc w _))
      have HX0 : Hid (Hx a pj w.heap.size m (w.alloc (.cells #[.int .i64 m.k, .int .i64 m.se, .int .i64 m.nu, .int .i64 m.jo, .int .i64 m.ba, .int .i64 m.ix, .int .i64 m.co, .int .i64 m.rc, .int .u64 (m.rb : Int), .string m.tx, .string m.pr] 67)).drew) := hide ⟨(HB0.out.cell (p := ⟨a.R, 5, none⟩) hlt).trans c5, (HB0.out.cell (p := ⟨a.R, 6, none⟩) hlt).trans c6, heap_alloc_new w (.cells #[.int .i64 m.k, .int .i64 m.se, .int .i64 m.nu, .int .i64 m.jo, .int .i64 m.ba, .int .i64 m.ix, .int .i64 m.co, .int .i64 m.rc, .int .u64 (m.rb : Int), .string m.tx, .string m.pr] 67)⟩
      have HP1 := hide hp1
      have HP2 := hide hp2
      clear h hk hF hp0 hp1 hp2 c5 c6
      have e0 := HP1.out hj
      subst e0
      clear hj
      go_enter Tryz.func105, Tryz.ntmps105
      go_upto_region 1 with fail
      obtain ⟨V0, hV0⟩ : ∃ V0, w.alloc (.cells #[.int .i64 m.k, .int .i64 m.se, .int .i64 m.nu, .int .i64 m.jo, .int .i64 m.ba, .int .i64 m.ix, .int .i64 m.co, .int .i64 m.rc, .int .u64 (m.rb : Int), .string m.tx, .string m.pr] 67) = V0 := ⟨_, rfl⟩
      rw [hV0] at HB0 HX0 ⊢
      clear hV0
      refine wp_region_held_drew (S := fun V => Hx a none w.heap.size m V) (by kernel_rfl) (HX0.out) (fun hHeld => ?_)
      refine wpAnyH_take (i := 0) (v := .pointer (some ⟨a.R, 0, none⟩)) rfl (by kernel_rfl) (by kernel_rfl) (by kernel_rfl) (fun _ _ _ h => h) (Or.inl ⟨by kernel_rfl, fun w1 hSw => by clear hHeld; have k5 := hSw.c5; have k6 := hSw.c6; obtain ⟨q0, q1, q2, q3, q4, q5, q6, q7, q8, q9, q10⟩ := msg_cells hSw.mg; go_simp⟩) hHeld ?_
      try simp only [Act.put]
      try simp only [List.getElem_toArray]
      try simp only [List.getElem_cons_succ]
      try simp only [List.getElem_cons_zero]
      try simp only [List.setIfInBounds_toArray]
      try simp only [List.set_cons_succ, List.set_cons_zero]
      refine wpAnyH_take (i := 1) (v := .pointer (some ⟨a.R, 0, none⟩)) rfl (by kernel_rfl) (by kernel_rfl) (by kernel_rfl) (fun _ _ _ h => h) (Or.inl ⟨by kernel_rfl, fun w1 hSw => by clear hHeld; have k5 := hSw.c5; have k6 := hSw.c6; obtain ⟨q0, q1, q2, q3, q4, q5, q6, q7, q8, q9, q10⟩ := msg_cells hSw.mg; go_simp⟩) hHeld ?_
      try simp only [Act.put]
      try simp only [List.getElem_toArray]
      try simp only [List.getElem_cons_succ]
      try simp only [List.getElem_cons_zero]
      try simp only [List.setIfInBounds_toArray]
      try simp only [List.set_cons_succ, List.set_cons_zero]
      refine wpAnyH_take (i := 2) (v := .pointer (some ⟨a.R, 5, none⟩)) rfl (by kernel_rfl) (by kernel_rfl) (by kernel_rfl) (fun _ _ _ h => h) (Or.inl ⟨by kernel_rfl, fun w1 hSw => by clear hHeld; have k5 := hSw.c5; have k6 := hSw.c6; obtain ⟨q0, q1, q2, q3, q4, q5, q6, q7, q8, q9, q10⟩ := msg_cells hSw.mg; go_simp⟩) hHeld ?_
      try simp only [Act.put]
      try simp only [List.getElem_toArray]
      try simp only [List.getElem_cons_succ]
      try simp only [List.getElem_cons_zero]
      try simp only [List.setIfInBounds_toArray]
      try simp only [List.set_cons_succ, List.set_cons_zero]
      refine wpAnyH_take (i := 3) (v := .pointer (some ⟨a.C, 0, none⟩)) rfl (by kernel_rfl) (by kernel_rfl) (by kernel_rfl) (fun _ _ _ h => h) (Or.inl ⟨by kernel_rfl, fun w1 hSw => by clear hHeld; have k5 := hSw.c5; have k6 := hSw.c6; obtain ⟨q0, q1, q2, q3, q4, q5, q6, q7, q8, q9, q10⟩ := msg_cells hSw.mg; go_simp⟩) hHeld ?_
      try simp only [Act.put]
      try simp only [List.getElem_toArray]
      try simp only [List.getElem_cons_succ]
      try simp only [List.getElem_cons_zero]
      try simp only [List.setIfInBounds_toArray]
      try simp only [List.set_cons_succ, List.set_cons_zero]
      refine wpAnyH_take (i := 4) (v := .agg #[.int .i64 m.k, .int .i64 m.se, .int .i64 m.nu, .int .i64 m.jo, .int .i64 m.ba, .int .i64 m.ix, .int .i64 m.co, .int .i64 m.rc, .int .u64 (m.rb : Int), .string m.tx, .string m.pr]) rfl (by kernel_rfl) (by kernel_rfl) (by kernel_rfl) (fun _ _ _ h => h) (Or.inl ⟨by kernel_rfl, fun w1 hSw => by clear hHeld; have k5 := hSw.c5; have k6 := hSw.c6; obtain ⟨q0, q1, q2, q3, q4, q5, q6, q7, q8, q9, q10⟩ := msg_cells hSw.mg; go_simp⟩) hHeld ?_
      try simp only [Act.put]
      try simp only [List.getElem_toArray]
      try simp only [List.getElem_cons_succ]
      try simp only [List.getElem_cons_zero]
      try simp only [List.setIfInBounds_toArray]
      try simp only [List.set_cons_succ, List.set_cons_zero]
      refine wpAnyH_ready (rs := [5]) (by kernel_rfl) (by simp) ?_
      refine AllReadyH.cons rfl (fun K hK => ?_) AllReadyH.nil
      go_simp
      refine (HHr.out _ HB0.out).mono ?_
      rintro e V2 ⟨rfl, hc, ho⟩
      have HS2 := hide ((St.call (HH.out.below HB0.out) ho hc).pre HB0.out)
      have HX2 : Hid (Hx a none w.heap.size m V2) := hide ⟨(World.cell?_of_block (a := ⟨a.R, 5, none⟩) (ho.block a.R (by have := HB0.out.size; omega) hRC)).trans HX0.out.c5, (World.cell?_of_block (a := ⟨a.R, 6, none⟩) (ho.block a.R (by have := HB0.out.size; omega) hRC)).trans HX0.out.c6, (ho.block w.heap.size (lt_of_block HX0.out.mg) (by omega)).trans HX0.out.mg⟩
      clear hc ho
      refine hK.out _ _ (HX2.out) (fun hHeld => ?_)
      clear hK K
      try simp only [Act.put]
      try simp only [List.getElem_toArray]
      try simp only [List.getElem_cons_succ]
      try simp only [List.getElem_cons_zero]
      try simp only [List.setIfInBounds_toArray]
      try simp only [List.set_cons_succ, List.set_cons_zero]
      refine wpAnyH_take (i := 6) (v := .bool true) rfl (by kernel_rfl) (by kernel_rfl) (by kernel_rfl) (fun _ _ _ h => h) (Or.inl ⟨by kernel_rfl, fun w1 hSw => by clear hHeld; have k5 := hSw.c5; have k6 := hSw.c6; obtain ⟨q0, q1, q2, q3, q4, q5, q6, q7, q8, q9, q10⟩ := msg_cells hSw.mg; go_simp⟩) hHeld ?_
      try simp only [Act.put]
      try simp only [List.getElem_toArray]
      try simp only [List.getElem_cons_succ]
      try simp only [List.getElem_cons_zero]
      try simp only [List.setIfInBounds_toArray]
      try simp only [List.set_cons_succ, List.set_cons_zero]
      refine wpAnyH_take (i := 7) (v := .bool true) rfl (by kernel_rfl) (by kernel_rfl) (by kernel_rfl) (fun _ _ _ h => h) (Or.inl ⟨by kernel_rfl, fun w1 hSw => by clear hHeld; have k5 := hSw.c5; have k6 := hSw.c6; obtain ⟨q0, q1, q2, q3, q4, q5, q6, q7, q8, q9, q10⟩ := msg_cells hSw.mg; go_simp⟩) hHeld ?_
      try simp only [Act.put]
      try simp only [List.getElem_toArray]
      try simp only [List.getElem_cons_succ]
      try simp only [List.getElem_cons_zero]
      try simp only [List.setIfInBounds_toArray]
      try simp only [List.set_cons_succ, List.set_cons_zero]
      refine wpAnyH_take (i := 8) (v := .pointer (some ⟨a.R, 0, none⟩)) rfl (by kernel_rfl) (by kernel_rfl) (by kernel_rfl) (fun _ _ _ h => h) (Or.inl ⟨by kernel_rfl, fun w1 hSw => by clear hHeld; have k5 := hSw.c5; have k6 := hSw.c6; obtain ⟨q0, q1, q2, q3, q4, q5, q6, q7, q8, q9, q10⟩ := msg_cells hSw.mg; go_simp⟩) hHeld ?_
      try simp only [Act.put]
      try simp only [List.getElem_toArray]
      try simp only [List.getElem_cons_succ]
      try simp only [List.getElem_cons_zero]
      try simp only [List.setIfInBounds_toArray]
      try simp only [List.set_cons_succ, List.set_cons_zero]
      refine wpAnyH_take (i := 9) (v := .pointer (some ⟨a.R, 0, none⟩)) rfl (by kernel_rfl) (by kernel_rfl) (by kernel_rfl) (fun _ _ _ h => h) (Or.inl ⟨by kernel_rfl, fun w1 hSw => by clear hHeld; have k5 := hSw.c5; have k6 := hSw.c6; obtain ⟨q0, q1, q2, q3, q4, q5, q6, q7, q8, q9, q10⟩ := msg_cells hSw.mg; go_simp⟩) hHeld ?_
      try simp only [Act.put]
      try simp only [List.getElem_toArray]
      try simp only [List.getElem_cons_succ]
      try simp only [List.getElem_cons_zero]
      try simp only [List.setIfInBounds_toArray]
      try simp only [List.set_cons_succ, List.set_cons_zero]
      refine wpAnyH_take (i := 10) (v := .pointer (some ⟨a.R, 6, none⟩)) rfl (by kernel_rfl) (by kernel_rfl) (by kernel_rfl) (fun _ _ _ h => h) (Or.inl ⟨by kernel_rfl, fun w1 hSw => by clear hHeld; have k5 := hSw.c5; have k6 := hSw.c6; obtain ⟨q0, q1, q2, q3, q4, q5, q6, q7, q8, q9, q10⟩ := msg_cells hSw.mg; go_simp⟩) hHeld ?_
      try simp only [Act.put]
      try simp only [List.getElem_toArray]
      try simp only [List.getElem_cons_succ]
      try simp only [List.getElem_cons_zero]
      try simp only [List.setIfInBounds_toArray]
      try simp only [List.set_cons_succ, List.set_cons_zero]
      refine wpAnyH_take (i := 11) (v := .pointer none) rfl (by kernel_rfl) (by kernel_rfl) (by kernel_rfl) (fun _ _ _ h => h) (Or.inl ⟨by kernel_rfl, fun w1 hSw => by clear hHeld; have k5 := hSw.c5; have k6 := hSw.c6; obtain ⟨q0, q1, q2, q3, q4, q5, q6, q7, q8, q9, q10⟩ := msg_cells hSw.mg; go_simp⟩) hHeld ?_
      try simp only [Act.put]
      try simp only [List.getElem_toArray]
      try simp only [List.getElem_cons_succ]
      try simp only [List.getElem_cons_zero]
      try simp only [List.setIfInBounds_toArray]
      try simp only [List.set_cons_succ, List.set_cons_zero]
      refine wpAnyH_take (i := 12) (v := .bool true) rfl (by kernel_rfl) (by kernel_rfl) (by kernel_rfl) (fun _ _ _ h => h) (Or.inl ⟨by kernel_rfl, fun w1 hSw => by clear hHeld; have k5 := hSw.c5; have k6 := hSw.c6; obtain ⟨q0, q1, q2, q3, q4, q5, q6, q7, q8, q9, q10⟩ := msg_cells hSw.mg; go_simp⟩) hHeld ?_
      try simp only [Act.put]
      try simp only [List.getElem_toArray]
      try simp only [List.getElem_cons_succ]
      try simp only [List.getElem_cons_zero]
      try simp only [List.setIfInBounds_toArray]
      try simp only [List.set_cons_succ, List.set_cons_zero]
      refine wpAnyH_take (i := 13) (v := .bool true) rfl (by kernel_rfl) (by kernel_rfl) (by kernel_rfl) (fun _ _ _ h => h) (Or.inl ⟨by kernel_rfl, fun w1 hSw => by clear hHeld; have k5 := hSw.c5; have k6 := hSw.c6; obtain ⟨q0, q1, q2, q3, q4, q5, q6, q7, q8, q9, q10⟩ := msg_cells hSw.mg; go_simp⟩) hHeld ?_
      try simp only [Act.put]
      try simp only [List.getElem_toArray]
      try simp only [List.getElem_cons_succ]
      try simp only [List.getElem_cons_zero]
      try simp only [List.setIfInBounds_toArray]
      try simp only [List.set_cons_succ, List.set_cons_zero]
      refine wpAnyH_done (by kernel_rfl) ?_ _
      go_upto_region 2 with fail
      have HZ0 : Hid (Hz a r w.heap.size m V2.drew) := hide ⟨HS2.out.rm.c2, HS2.out.rm.c3, HX2.out.mg⟩
      have hRl2 := lt_of_block HS2.out.rm.rb
      have HNd := hide (HNj.out V2.drew)
      clear hHeld HNj
      refine wp_region_held_drew (S := fun V => Hz a r w.heap.size m V) (by kernel_rfl) (HZ0.out) (fun hHeld => ?_)
      refine wpAnyH_take (i := 0) (v := .pointer (some ⟨a.R, 0, none⟩)) rfl (by kernel_rfl) (by kernel_rfl) (by kernel_rfl) (fun _ _ _ h => h) (Or.inl ⟨by kernel_rfl, fun w1 hSw => by clear hHeld; have k2 := hSw.c2; have k3 := hSw.c3; obtain ⟨q0, q1, q2, q3, q4, q5, q6, q7, q8, q9, q10⟩ := msg_cells hSw.mg; go_simp⟩) hHeld ?_
      try simp only [Act.put]
      try simp only [List.getElem_toArray]
      try simp only [List.getElem_cons_succ]
      try simp only [List.getElem_cons_zero]
      try simp only [List.setIfInBounds_toArray]
      try simp only [List.set_cons_succ, List.set_cons_zero]
      refine wpAnyH_take (i := 1) (v := .agg #[.int .i64 m.k, .int .i64 m.se, .int .i64 m.nu, .int .i64 m.jo, .int .i64 m.ba, .int .i64 m.ix, .int .i64 m.co, .int .i64 m.rc, .int .u64 (m.rb : Int), .string m.tx, .string m.pr]) rfl (by kernel_rfl) (by kernel_rfl) (by kernel_rfl) (fun _ _ _ h => h) (Or.inl ⟨by kernel_rfl, fun w1 hSw => by clear hHeld; have k2 := hSw.c2; have k3 := hSw.c3; obtain ⟨q0, q1, q2, q3, q4, q5, q6, q7, q8, q9, q10⟩ := msg_cells hSw.mg; go_simp⟩) hHeld ?_
      try simp only [Act.put]
      try simp only [List.getElem_toArray]
      try simp only [List.getElem_cons_succ]
      try simp only [List.getElem_cons_zero]
      try simp only [List.setIfInBounds_toArray]
      try simp only [List.set_cons_succ, List.set_cons_zero]
      refine wpAnyH_take (i := 2) (v := .pointer (some ⟨a.R, 0, none⟩)) rfl (by kernel_rfl) (by kernel_rfl) (by kernel_rfl) (fun _ _ _ h => h) (Or.inl ⟨by kernel_rfl, fun w1 hSw => by clear hHeld; have k2 := hSw.c2; have k3 := hSw.c3; obtain ⟨q0, q1, q2, q3, q4, q5, q6, q7, q8, q9, q10⟩ := msg_cells hSw.mg; go_simp⟩) hHeld ?_
      try simp only [Act.put]
      try simp only [List.getElem_toArray]
      try simp only [List.getElem_cons_succ]
      try simp only [List.getElem_cons_zero]
      try simp only [List.setIfInBounds_toArray]
      try simp only [List.set_cons_succ, List.set_cons_zero]
      refine wpAnyH_take (i := 3) (v := .pointer (some ⟨a.R, 0, none⟩)) rfl (by kernel_rfl) (by kernel_rfl) (by kernel_rfl) (fun _ _ _ h => h) (Or.inl ⟨by kernel_rfl, fun w1 hSw => by clear hHeld; have k2 := hSw.c2; have k3 := hSw.c3; obtain ⟨q0, q1, q2, q3, q4, q5, q6, q7, q8, q9, q10⟩ := msg_cells hSw.mg; go_simp⟩) hHeld ?_
      try simp only [Act.put]
      try simp only [List.getElem_toArray]
      try simp only [List.getElem_cons_succ]
      try simp only [List.getElem_cons_zero]
      try simp only [List.setIfInBounds_toArray]
      try simp only [List.set_cons_succ, List.set_cons_zero]
      refine wpAnyH_take (i := 4) (v := .pointer (some ⟨a.R, 2, none⟩)) rfl (by kernel_rfl) (by kernel_rfl) (by kernel_rfl) (fun _ _ _ h => h) (Or.inl ⟨by kernel_rfl, fun w1 hSw => by clear hHeld; have k2 := hSw.c2; have k3 := hSw.c3; obtain ⟨q0, q1, q2, q3, q4, q5, q6, q7, q8, q9, q10⟩ := msg_cells hSw.mg; go_simp⟩) hHeld ?_
      try simp only [Act.put]
      try simp only [List.getElem_toArray]
      try simp only [List.getElem_cons_succ]
      try simp only [List.getElem_cons_zero]
      try simp only [List.setIfInBounds_toArray]
      try simp only [List.set_cons_succ, List.set_cons_zero]
      refine wpAnyH_take (i := 5) (v := .int .i64 (r.wd : Int)) rfl (by kernel_rfl) (by kernel_rfl) (by kernel_rfl) (fun _ _ _ h => h) (Or.inl ⟨by kernel_rfl, fun w1 hSw => by clear hHeld; have k2 := hSw.c2; have k3 := hSw.c3; obtain ⟨q0, q1, q2, q3, q4, q5, q6, q7, q8, q9, q10⟩ := msg_cells hSw.mg; go_simp⟩) hHeld ?_
      try simp only [Act.put]
      try simp only [List.getElem_toArray]
      try simp only [List.getElem_cons_succ]
      try simp only [List.getElem_cons_zero]
      try simp only [List.setIfInBounds_toArray]
      try simp only [List.set_cons_succ, List.set_cons_zero]
      refine wpAnyH_take (i := 6) (v := .pointer (some ⟨a.R, 0, none⟩)) rfl (by kernel_rfl) (by kernel_rfl) (by kernel_rfl) (fun _ _ _ h => h) (Or.inl ⟨by kernel_rfl, fun w1 hSw => by clear hHeld; have k2 := hSw.c2; have k3 := hSw.c3; obtain ⟨q0, q1, q2, q3, q4, q5, q6, q7, q8, q9, q10⟩ := msg_cells hSw.mg; go_simp⟩) hHeld ?_
      try simp only [Act.put]
      try simp only [List.getElem_toArray]
      try simp only [List.getElem_cons_succ]
      try simp only [List.getElem_cons_zero]
      try simp only [List.setIfInBounds_toArray]
      try simp only [List.set_cons_succ, List.set_cons_zero]
      refine wpAnyH_take (i := 7) (v := .pointer (some ⟨a.R, 0, none⟩)) rfl (by kernel_rfl) (by kernel_rfl) (by kernel_rfl) (fun _ _ _ h => h) (Or.inl ⟨by kernel_rfl, fun w1 hSw => by clear hHeld; have k2 := hSw.c2; have k3 := hSw.c3; obtain ⟨q0, q1, q2, q3, q4, q5, q6, q7, q8, q9, q10⟩ := msg_cells hSw.mg; go_simp⟩) hHeld ?_
      try simp only [Act.put]
      try simp only [List.getElem_toArray]
      try simp only [List.getElem_cons_succ]
      try simp only [List.getElem_cons_zero]
      try simp only [List.setIfInBounds_toArray]
      try simp only [List.set_cons_succ, List.set_cons_zero]
      refine wpAnyH_take (i := 8) (v := .pointer (some ⟨a.R, 3, none⟩)) rfl (by kernel_rfl) (by kernel_rfl) (by kernel_rfl) (fun _ _ _ h => h) (Or.inl ⟨by kernel_rfl, fun w1 hSw => by clear hHeld; have k2 := hSw.c2; have k3 := hSw.c3; obtain ⟨q0, q1, q2, q3, q4, q5, q6, q7, q8, q9, q10⟩ := msg_cells hSw.mg; go_simp⟩) hHeld ?_
      try simp only [Act.put]
      try simp only [List.getElem_toArray]
      try simp only [List.getElem_cons_succ]
      try simp only [List.getElem_cons_zero]
      try simp only [List.setIfInBounds_toArray]
      try simp only [List.set_cons_succ, List.set_cons_zero]
      refine wpAnyH_take (i := 9) (v := .int .i64 (r.rs : Int)) rfl (by kernel_rfl) (by kernel_rfl) (by kernel_rfl) (fun _ _ _ h => h) (Or.inl ⟨by kernel_rfl, fun w1 hSw => by clear hHeld; have k2 := hSw.c2; have k3 := hSw.c3; obtain ⟨q0, q1, q2, q3, q4, q5, q6, q7, q8, q9, q10⟩ := msg_cells hSw.mg; go_simp⟩) hHeld ?_
      try simp only [Act.put]
      try simp only [List.getElem_toArray]
      try simp only [List.getElem_cons_succ]
      try simp only [List.getElem_cons_zero]
      try simp only [List.setIfInBounds_toArray]
      try simp only [List.set_cons_succ, List.set_cons_zero]
      refine wpAnyH_ready (rs := [10]) (by kernel_rfl) (by simp) ?_
      refine AllReadyH.cons rfl (fun K hK => ?_) AllReadyH.nil
      go_simp
      refine HNd.out.mono ?_
      rintro e V3 ⟨hb, hc⟩
      obtain ⟨pn, he, hc2⟩ : ∃ pn, e = .returned (.pointer pn) ∧ (((Pg.unpackS m.pr).2 ≠ 0 ∧ pn = none) ∨ ((Pg.unpackS m.pr).2 = 0 ∧ ∃ ja : JA, pn = some ⟨ja.J, 0, none⟩ ∧ Jm V3 ja (newJ m r.wd r.rs) ∧ ∀ b i, ja.d b i → V2.heap.size ≤ b)) := by
        rcases hc with ⟨h1, h2⟩ | ⟨h1, ja, h2, h3, h4⟩
        · exact ⟨none, h2, .inl ⟨h1, rfl⟩⟩
        · exact ⟨_, h2, .inr ⟨h1, ja, rfl, h3, h4⟩⟩
      subst he
      have HC3 := hide hc2
      have HB3 : Hid (Below V2.heap.size V2 V3) := hide ⟨hb.os, hb.tape, hb.output, hb.size, hb.block⟩
      have HZ3 : Hid (Hz a r w.heap.size m V3) := hide ⟨(HB3.out.cell (p := ⟨a.R, 2, none⟩) hRl2).trans HZ0.out.c2, (HB3.out.cell (p := ⟨a.R, 3, none⟩) hRl2).trans HZ0.out.c3, (HB3.out.block _ (lt_of_block HX2.out.mg)).trans HX2.out.mg⟩
      have z6 := blk_z ((HB3.out.block _ hRl2).trans HS2.out.rm.rb) 6
      have k6 := (HB3.out.cell (p := ⟨a.R, 6, none⟩) hRl2).trans HX2.out.c6
      have hRl3 : a.R < V3.heap.size := Nat.lt_of_lt_of_le hRl2 HB3.out.size
      clear hb hc hc2
      refine hK.out _ _ (HZ3.out) (fun hHeld => ?_)
      clear hK K
      try simp only [Act.put]
      try simp only [List.getElem_toArray]
      try simp only [List.getElem_cons_succ]
      try simp only [List.getElem_cons_zero]
      try simp only [List.setIfInBounds_toArray]
      try simp only [List.set_cons_succ, List.set_cons_zero]
      refine wpAnyH_take (i := 11) (v := .pointer (some ⟨a.R, 0, none⟩)) rfl (by kernel_rfl) (by kernel_rfl) (by kernel_rfl) (fun _ _ _ h => h) (Or.inl ⟨by kernel_rfl, fun w1 hSw => by clear hHeld; have k2 := hSw.c2; have k3 := hSw.c3; obtain ⟨q0, q1, q2, q3, q4, q5, q6, q7, q8, q9, q10⟩ := msg_cells hSw.mg; go_simp⟩) hHeld ?_
      try simp only [Act.put]
      try simp only [List.getElem_toArray]
      try simp only [List.getElem_cons_succ]
      try simp only [List.getElem_cons_zero]
      try simp only [List.setIfInBounds_toArray]
      try simp only [List.set_cons_succ, List.set_cons_zero]
      refine wpAnyH_take (i := 12) (v := .pointer (some ⟨a.R, 6, none⟩)) rfl (by kernel_rfl) (by kernel_rfl) (by kernel_rfl) (fun _ _ _ h => h) (Or.inl ⟨by kernel_rfl, fun w1 hSw => by clear hHeld; have k2 := hSw.c2; have k3 := hSw.c3; obtain ⟨q0, q1, q2, q3, q4, q5, q6, q7, q8, q9, q10⟩ := msg_cells hSw.mg; go_simp⟩) hHeld ?_
      try simp only [Act.put]
      try simp only [List.getElem_toArray]
      try simp only [List.getElem_cons_succ]
      try simp only [List.getElem_cons_zero]
      try simp only [List.setIfInBounds_toArray]
      try simp only [List.set_cons_succ, List.set_cons_zero]
      refine wpAnyH_ready (rs := [13]) (by kernel_rfl) (by simp) ?_
      refine AllReadyH.cons rfl (fun K hK => ?_) AllReadyH.nil
      have HZ4 : Hid (Hz a r w.heap.size m (V3.setCell ⟨a.R, 6, none⟩ (.pointer pn))) := hide ⟨set_far HZ3.out.c2 (by decide), set_far HZ3.out.c3 (by decide), (Below.heap_setCell V3 ⟨a.R, 6, none⟩ (.pointer pn) w.heap.size (by show w.heap.size ≠ a.R; omega)).trans HZ3.out.mg⟩
      clear hHeld
      go_simp
      refine hK.out _ _ (HZ4.out) (fun hHeld => ?_)
      clear hK K
      try simp only [Act.put]
      try simp only [List.getElem_toArray]
      try simp only [List.getElem_cons_succ]
      try simp only [List.getElem_cons_zero]
      try simp only [List.setIfInBounds_toArray]
      try simp only [List.set_cons_succ, List.set_cons_zero]
      refine wpAnyH_done (by kernel_rfl) ?_ _
      go_wp2_with fail
      go_end0
      rcases HC3.out with ⟨h0, rfl⟩ | ⟨h0, ja, rfl, hjm, hdd⟩
      · refine ⟨rfl, a, ?_⟩
        rw [HEn.out h0]
        exact HS2.out.trans ((St.refl HS2.out.rm).low HB3.out |>.trans (St.drop (HS2.out.rm.below HB3.out)))
      · refine ⟨rfl, { a with ja := ja }, ?_⟩
        rw [HEo.out h0]
        exact HS2.out.trans (St.take HS2.out.rm HB3.out hjm hdd)
end
end Go.Proofs.YtkfnedhllfdghaaGreatDoor.RN
end

section
namespace Go.Proofs.YtkfnedhllfdghaaGreatDoor.RN
open Go.RowKit Go.Shelf
set_option maxRecDepth 20000

/-- what is done with a message, by whom it comes from and its kind -/
def tab0 : Array Value := #[.nilFunc, .nilFunc, .nilFunc, .nilFunc, .nilFunc, .nilFunc, .nilFunc, .func (.func 104) #[] #[], .func (.func 104) #[] #[], .func (.func 105) #[] #[], .func (.func 104) #[] #[], .func (.func 104) #[] #[], .func (.func 106) #[] #[], .func (.func 106) #[] #[], .func (.func 107) #[] #[], .nilFunc, .nilFunc]
def tab1 : Array Value := #[.nilFunc, .nilFunc, .nilFunc, .nilFunc, .nilFunc, .nilFunc, .nilFunc, .nilFunc, .nilFunc, .nilFunc, .nilFunc, .nilFunc, .nilFunc, .nilFunc, .nilFunc, .func (.func 108) #[] #[], .func (.func 109) #[] #[]]
def tab2 : Array Value := #[.nilFunc, .nilFunc, .nilFunc, .nilFunc, .nilFunc, .nilFunc, .nilFunc, .nilFunc, .nilFunc, .nilFunc, .nilFunc, .nilFunc, .nilFunc, .nilFunc, .nilFunc, .nilFunc, .nilFunc]
set_option maxHeartbeats 4000000 in
theorem doings_0 (w : World) : Calls Tryz.prog 58 #[.agg #[.int .i64 0, .int .i64 0]] w fun e w' => e = .returned (.agg tab0) ∧ Below w.heap.size w w' := by
  go_enter Tryz.func58, Tryz.ntmps58
  go_wp2_with fail
  refine bodyPost_ret (by rw [results_c1 (fn := Tryz.f58) rfl]; go_simp; rfl) rfl ?_
  exact ⟨rfl, ((Below.refl _ w).alloc (Nat.le_refl _) _).alloc (by simp) _⟩
end Go.Proofs.YtkfnedhllfdghaaGreatDoor.RN
end

section
namespace Go.Proofs.YtkfnedhllfdghaaGreatDoor.RN
open Go.RowKit Go.Shelf
set_option maxRecDepth 20000

set_option maxHeartbeats 4000000 in
theorem doings_2 (w : World) {n l : Int} (h0 : ¬ (n = 0 ∧ l = 0)) (h1 : ¬ (n = 1 ∧ l = 0)) : Calls Tryz.prog 58 #[.agg #[.int .i64 n, .int .i64 l]] w fun e w' => e = .returned (.agg tab2) ∧ Below w.heap.size w w' := by
  by_cases hl : l = 0
  · have t0 : (n == 0) = false := by have : ¬ n = 0 := fun e => h0 ⟨e, hl⟩; simpa using this
    have t1 : (n == 1) = false := by have : ¬ n = 1 := fun e => h1 ⟨e, hl⟩; simpa using this
    have d0 : ¬ n = 0 := fun e => h0 ⟨e, hl⟩
    have d1 : ¬ n = 1 := fun e => h1 ⟨e, hl⟩
    clear h0 h1 hl
    go_enter Tryz.func58, Tryz.ntmps58
    go_wp2_with fail
    refine bodyPost_ret (by rw [results_c1 (fn := Tryz.f58) rfl]; go_simp; rfl) rfl ?_
    exact ⟨rfl, ((Below.refl _ w).alloc (Nat.le_refl _) _).alloc (by simp) _⟩
  · have tl : (l == 0) = false := by simpa using hl
    clear h0 h1
    go_enter Tryz.func58, Tryz.ntmps58
    go_wp2_with fail
    refine bodyPost_ret (by rw [results_c1 (fn := Tryz.f58) rfl]; go_simp; rfl) rfl ?_
    exact ⟨rfl, ((Below.refl _ w).alloc (Nat.le_refl _) _).alloc (by simp) _⟩
end Go.Proofs.YtkfnedhllfdghaaGreatDoor.RN
end

section
namespace Go.Proofs.YtkfnedhllfdghaaGreatDoor.RN
open Go.RowKit Go.Shelf
set_option maxRecDepth 20000

set_option maxHeartbeats 4000000 in
theorem doings_1 (w : World) : Calls Tryz.prog 58 #[.agg #[.int .i64 1, .int .i64 0]] w fun e w' => e = .returned (.agg tab1) ∧ Below w.heap.size w w' := by
  go_enter Tryz.func58, Tryz.ntmps58
  go_wp2_with fail
  refine bodyPost_ret (by rw [results_c1 (fn := Tryz.f58) rfl]; go_simp; rfl) rfl ?_
  exact ⟨rfl, ((Below.refl _ w).alloc (Nat.le_refl _) _).alloc (by simp) _⟩
end Go.Proofs.YtkfnedhllfdghaaGreatDoor.RN
end
