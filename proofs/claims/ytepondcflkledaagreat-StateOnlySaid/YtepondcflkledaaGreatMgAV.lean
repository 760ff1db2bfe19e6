import Derived.Test.YtepondcflkledaaGreatMgAU
import Derived.Deep.WholeRow

section
namespace Go.Proofs.YtepondcflkledaaGreat.S
set_option maxRecDepth 20000
open Go.RowKit
open Rc (Ch)
open Q (Rr rr0 nrow fnd grE grL exE exL seE seL hix gb rowR grt xp stl Qm Ft Mv qclone_any)

theorem load_all {w : World} {x : Nat} {c : Array Value} {t : TypeId} (h : w.heap[x]? = some (.cells c t (0, 0))) (hs : c.size = 18) : (loadCellsFrom ⟨x, 0, none⟩ 0 18 #[]).run Tryz.prog w = .ok c w := by
  have := run_loadCells_list (P := Tryz.prog) w ⟨x, 0, none⟩ c.toList (fun j v hv => by
    rw [Addr.add_lit, Nat.zero_add, World.cell?, h]
    simpa using hv)
  rw [← hs]
  simpa [loadCells] using this
theorem load_var {w : World} {x : Nat} {c : Array Value} {t : TypeId} (h : w.heap[x]? = some (.cells c t (0, 0))) (hs : c.size = 18) : (loadVar 57 ⟨x, 0, none⟩).run Tryz.prog w = .ok (.agg c) w := by
  have h1 := load_all h hs
  simp [loadVar, loadCells, h1, Result.andThen]
theorem load_at {w : World} {x : Nat} {c : Array Value} {t : TypeId} (h : w.heap[x]? = some (.cells c t (0, 0))) (hs : c.size = 18) : (Instr.loadAt 57 (.pointer (some ⟨x, 0, none⟩))).run Tryz.prog w = .ok (.agg c) w := by
  simp only [Instr.loadAt, Instr.sureAddr, Sem.run_bind, Sem.run_pure, Result.andThen]
  exact load_var h hs
theorem load_op {w : World} {x : Nat} {c : Array Value} {t : TypeId} (h : w.heap[x]? = some (.cells c t (0, 0))) (hs : c.size = 18) {o : Oper} {f : Operand → Value} {y : Operand} (ho : o.op = .load 57 y) (hy : f y = .pointer (some ⟨x, 0, none⟩)) : (execOp f o).run Tryz.prog w = .ok (.value (.agg c)) w := by
  have := load_at h hs
  simp only [execOp, ho, hy, Sem.run_bind, this, Result.andThen, Sem.run_pure]
theorem store_op {w : World} {z c : Array Value} (hz : z.size = 18) (hc : c.size = 18) (h1 : c.all (·.oneCell') = true) {o : Oper} {f : Operand → Value} {y v : Operand} (ho : o.op = .store 57 y v) (hy : f y = .pointer (some ⟨w.heap.size, 0, none⟩)) (hv : f v = .agg c) : (execOp f o).run Tryz.prog (w.alloc (.cells z 57)) = .ok .skip (w.alloc (.cells c 57)) := by
  have := run_storeAt_new (P := Tryz.prog) w 57 z c (by rw [hc]; kernel_rfl) (by rw [hz, hc]) h1
  simp only [execOp, ho, hy, hv, Sem.run_bind, this, Result.andThen, Sem.run_pure]
theorem list_value {ops : Array Oper} {rest : List Oper} {o : Oper} {a : Act} {w : World} {Q : Exit → Act → World → Prop} (hg : o.guard = none) {v : Value} (hrun : (execOp a.eval o).run Tryz.prog w = .ok (.value v) w) (h : wpList Tryz.prog ops Q rest (a.put o.dst v) w) : wpList Tryz.prog ops Q (o :: rest) a w := by
  refine wpList_plain hg fun K hK => ?_
  unfold Oper.wp
  rw [hrun, Oper.upon_value]
  exact hK _ _ h
theorem list_skip {ops : Array Oper} {rest : List Oper} {o : Oper} {a : Act} {w w' : World} {Q : Exit → Act → World → Prop} (hg : o.guard = none) (hrun : (execOp a.eval o).run Tryz.prog w = .ok .skip w') (h : wpList Tryz.prog ops Q rest (a.put o.dst undef) w') : wpList Tryz.prog ops Q (o :: rest) a w := by
  refine wpList_plain hg fun K hK => ?_
  unfold Oper.wp
  rw [hrun, Oper.upon_skip]
  exact hK _ _ h
theorem tx_one {w : World} {t : Value} {l : List ByteArray} (h : Tx w t l) : t.oneCell' = true := by
  obtain ⟨p, cap, rfl, _⟩ := h
  rfl
theorem o1 (p : Option Addr) : (Value.pointer p).oneCell' = true := rfl
theorem o2 (k : IntKind) (n : Int) : (Value.int k n).oneCell' = true := rfl
theorem o3 (b : ByteArray) : (Value.string b).oneCell' = true := rfl
set_option maxHeartbeats 1000000 in
theorem kclone_any {O : Nat → Prop} {base : Nat} {w : World} {kb qb : Nat} {v : Value} {T : Nat → Value} {m : Int} {s : Sx} (h : Kp O base w kb qb v T m s) (hl : s.L.length ≤ 8) :
    Calls Tryz.prog 34 #[.pointer (some ⟨kb, 0, none⟩)] w fun e w' => ∃ kb' qb' v', e = .returned (.pointer (some ⟨kb', 0, none⟩)) ∧ Kp O w.heap.size w' kb' qb' v' T m s ∧ Below w.heap.size w w' := by
  obtain ⟨zc, hzc⟩ : ∃ zc : Array Value, zc = #[.pointer none, .int .i64 0, .string ByteArray.empty, .slice none 0 0, .string ByteArray.empty, .slice none 0 0, .string ByteArray.empty, .slice none 0 0, .string ByteArray.empty, .slice none 0 0, .string ByteArray.empty, .slice none 0 0, .string ByteArray.empty, .slice none 0 0, .string ByteArray.empty, .slice none 0 0, .string ByteArray.empty, .slice none 0 0] := ⟨_, rfl⟩
  have hZV : ∀ w, (zeroValue 57).run Tryz.prog w = .ok (.agg zc) w := fun w => by rw [hzc]; kernel_rfl
  have hzs : zc.size = 18 := by rw [hzc]; rfl
  have hzn : zc ≠ #[] := fun e => by rw [e] at hzs; cases hzs
  have hblk := h.blk
  obtain ⟨c, hc⟩ : ∃ c : Array Value, kcs qb s.res s.pa T = c := ⟨_, rfl⟩
  have hcs : c.size = 18 := by rw [← hc]; rfl
  have HC1 : Hid (c.all (·.oneCell') = true) := hide (by
    rw [← hc]
    simp [kcs, o1, o2, o3, tx_one (h.lg 0 (by decide)), tx_one (h.lg 1 (by decide)), tx_one (h.lg 2 (by decide)), tx_one (h.lg 3 (by decide)), tx_one (h.lg 4 (by decide)), tx_one (h.lg 5 (by decide)), tx_one (h.lg 6 (by decide)), tx_one (h.lg 7 (by decide))])
  rw [hc] at hblk
  have HXb := hide hblk
  have hlt := h.lt
  have HK := hide h
  have HC := hide hc
  have HQ := hide (qclone_any (h.q.below (below_alloc w (.cells c 57))) hl)
  have c0 : (w.alloc (.cells c 57)).cell? ⟨kb, 0, none⟩ = some (.pointer (some ⟨qb, 0, none⟩)) := Lib.cell?_alloc_some _ h.c0
  have hcn : c ≠ #[] := fun e => by rw [e] at hcs; cases hcs
  clear h hzc hblk hc
  go_enter Tryz.func34, Tryz.ntmps34
  go_upto_region 1 with fail
  apply wp_region_lit
  iterate 6 go_step
  refine list_value rfl (load_op HXb.out hcs rfl rfl) ?_
  simp only [Act.put, List.setIfInBounds_toArray, List.set_cons_succ, List.set_cons_zero]
  iterate 3 go_step
  refine list_skip rfl (store_op hzs hcs HC1.out rfl rfl rfl) ?_
  simp only [Act.put]
  clear HXb HC1 hZV
  have hsz := World.size_alloc w (.cells c 57)
  have HN := hide (heap_alloc_new w (.cells c 57))
  have HB := hide (below_alloc w (.cells c 57))
  generalize w.alloc (.cells c 57) = W at *
  go_wp2_with fail
  refine HQ.out.mono ?_
  rintro e w1 ⟨qb', v', rfl, hq, hb⟩
  have hnk : w1.heap[w.heap.size]? = some (.cells c 57 (0, 0)) := (hb.block _ (by omega)).trans HN.out
  have d0 : w1.cell? ⟨w.heap.size, 0, none⟩ = some (.pointer (some ⟨qb, 0, none⟩)) := by simp [World.cell?, hnk, ← HC.out]
  have z0 : w1.frozen? ⟨w.heap.size, 0, none⟩ = false := by simp [World.frozen?, hnk]
  have HF : Hid (Kp O w.heap.size (w1.setCell ⟨w.heap.size, 0, none⟩ (.pointer (some ⟨qb', 0, none⟩))) w.heap.size qb' v' T m s) := hide (by
    have hne : ∀ g, g ≠ w.heap.size → (w1.setCell ⟨w.heap.size, 0, none⟩ (.pointer (some ⟨qb', 0, none⟩))).heap[g]? = w1.heap[g]? := fun g hg => Below.heap_setCell _ ⟨w.heap.size, 0, none⟩ _ g hg
    have hft : ∀ g, Ft qb' v' g → w.heap.size < g := fun g hg => by have := (hq.ftlt g hg).1; omega
    have hold : ∀ g, g < w.heap.size → (w1.setCell ⟨w.heap.size, 0, none⟩ (.pointer (some ⟨qb', 0, none⟩))).heap[g]? = w.heap[g]? := fun g hg => (hne g (by omega)).trans ((hb.block g (by omega)).trans (HB.out.block g hg))
    refine ⟨?_, Qm.weak (hq.keep fun g hg => hne g (by have := hft g hg; omega)) (by omega), Nat.le_refl _, fun hf => by have := hft _ hf; omega, fun i hi => tx_keep (HK.out.lg i hi) (by rw [Q.setCell_size]; have := hb.size; omega) fun g hg => hold g (HK.out.tb i hi g hg), fun i hi g hg => by rw [Q.setCell_size]; have := hb.size; have := HK.out.tb i hi g hg; omega, fun i hi g hg => ⟨by have := HK.out.tb i hi g hg; omega, fun hf => by have := hft g hf; have := HK.out.tb i hi g hg; omega, (HK.out.ap i hi g hg).2.2⟩⟩
    rw [cells_set hnk, ← HC.out]
    rfl)
  have HG : Hid (Below w.heap.size w (w1.setCell ⟨w.heap.size, 0, none⟩ (.pointer (some ⟨qb', 0, none⟩)))) := hide ((HB.out.trans (hb.mono (by omega))).setCell (Nat.le_refl _) _)
  have hl1 : w.heap.size < w1.heap.size := lt_of_block hnk
  clear hq hb hnk HQ HK HN HC c0
  go_wp2_with fail
  go_ret
  exact ⟨_, _, _, rfl, HF.out, HG.out⟩
end Go.Proofs.YtepondcflkledaaGreat.S
end

section
namespace Go.Proofs.YtepondcflkledaaGreat.S
set_option maxRecDepth 20000
open Go.RowKit
open Rc (Ch)
open Q (Rr rr0 nrow fnd grE grL exE exL seE seL exJ seJ hix gb rowR grt xp stl Qm Ft Mv sbE sbJ sbL submit_any grant_any expire_any settle_any qfind_any)

theorem Kp.drewN {O : Nat → Prop} {base : Nat} {w : World} {kb qb : Nat} {v : Value} {T : Nat → Value} {m : Int} {s : Sx} (h : Kp O base w kb qb v T m s) (n : Nat) : Kp O base (w.drewN n) kb qb v T m s := h.keep (Nat.le_refl _) fun _ _ => rfl
theorem Kp.drew {O : Nat → Prop} {base : Nat} {w : World} {kb qb : Nat} {v : Value} {T : Nat → Value} {m : Int} {s : Sx} (h : Kp O base w kb qb v T m s) : Kp O base w.drew kb qb v T m s := h.keep (Nat.le_refl _) fun _ _ => rfl
theorem below_drewN {B : Nat} {w w' : World} (h : Below B w w') (n : Nat) : Below B w (w'.drewN n) := ⟨h.os, h.tape, h.output, h.size, h.block⟩
/-- what a doing answers -/
inductive TP (O : Nat → Prop) (base : Nat) (m : Int) (s : Sx) (c : Ch) (kb qb : Nat) (w : World) (e : Ending) (w' : World) : Prop
  | no : one m s c = none → e = .returned (.bool false) → Below base w w' → TP O base m s c kb qb w e w'
  | yes (s' : Sx) (v' : Value) (T' : Nat → Value) : one m s c = some s' → e = .returned (.bool true) → Kp O base w' kb qb v' T' m s' → Below base w w' → TP O base m s c kb qb w e w'
theorem one_1 {m : Int} {s : Sx} {c : Ch} (hc : Rc.check c = 0) (hk : c.k = 1) : one m s c = if c.n ≤ s.res then none else some ⟨c.n, s.L, s.P⟩ := by
  unfold one; simp [hc, hk]
theorem one_2 {m : Int} {s : Sx} {c : Ch} (hc : Rc.check c = 0) (hk : c.k = 2) : one m s c = if s.L.length < 8 ∧ c.jo = (s.L.length : Int) + 1 then some ⟨s.res, s.L ++ [nrow ((s.L.length : Int) + 1)], s.P.set s.L.length ⟨c.pr, []⟩⟩ else none := by
  unfold one; simp [hc, hk]
theorem one_3 {m : Int} {s : Sx} {c : Ch} (hc : Rc.check c = 0) (hk : c.k = 3) : one m s c = if s.res < c.ba ∨ grE s.L c.jo c.ba (2 + c.sl) c.li ≠ 0 then none else some ⟨s.res, grL s.L c.jo c.ba (2 + c.sl) c.li, s.P.set (jx c.jo) ⟨(s.pa (jx c.jo)).pr, []⟩⟩ := by
  unfold one; simp [hc, hk]
theorem one_4 {m : Int} {s : Sx} {c : Ch} (hc : Rc.check c = 0) (hk : c.k = 4) : one m s c = if (fnd c.ba s.L = rr0 ∨ (fnd c.ba s.L).st ≠ 2) ∨ 32 < (s.pa (jx (fnd c.ba s.L).job)).lg.length + c.tx.length then none else some ⟨s.res, s.L, s.P.set (jx (fnd c.ba s.L).job) ⟨(s.pa (jx (fnd c.ba s.L).job)).pr, (s.pa (jx (fnd c.ba s.L).job)).lg ++ c.tx⟩⟩ := by
  unfold one; simp [hc, hk]
theorem one_5 {m : Int} {s : Sx} {c : Ch} (hc : Rc.check c = 0) (hk : c.k = 5) : one m s c = if exE s.L c.ba = 0 then some ⟨s.res, exL m s.L c.ba, s.P⟩ else none := by
  unfold one; simp [hc, hk]
theorem one_6 {m : Int} {s : Sx} {c : Ch} (hc : Rc.check c = 0) (hk : c.k = 6) : one m s c = if seE s.L c.ba c.rc (c.rb : Int) = 0 then some ⟨s.res, seL s.L c.ba c.rc (c.rb : Int), s.P⟩ else none := by
  unfold one; simp [hc, hk]
section
variable {O : Nat → Prop} {base : Nat} {w : World} {kb qb : Nat} {v : Value} {T : Nat → Value} {m : Int} {s : Sx} {c : Ch} {t : Value}
set_option maxHeartbeats 1000000 in
theorem d_reserve (h : Kp O base w kb qb v T m s) (hc : Rc.check c = 0) (hk : c.k = 1) :
    Calls Tryz.prog 96 #[.pointer (some ⟨kb, 0, none⟩), .agg (chC c t)] w (TP O base m s c kb qb w) := by
  have H1 := hide (h.below (below_alloc w (.cells (chC c t) 78)))
  have c1 : (w.alloc (.cells (chC c t) 78)).cell? ⟨kb, 1, none⟩ = some (.int .i64 s.res) := Lib.cell?_alloc_some _ h.c1
  have hlt := h.lt
  have hlow := h.low
  have HA : Hid (Below base w (w.alloc (.cells (chC c t) 78))) := hide ((Below.refl _ w).alloc (by omega) _)
  have z1 : ∀ k, (w.alloc (.cells (chC c t) 78)).frozen? ⟨kb, k, none⟩ = false := H1.out.z
  have HO := hide (one_1 (m := m) (s := s) hc hk)
  clear h hc hk
  simp only [chC] at H1 c1 HA z1
  by_cases hn : c.n ≤ s.res
  · rw [if_pos hn] at HO
    go_enter Tryz.func96, Tryz.ntmps96
    simp only [chC]
    go_wp2_with fail
    go_quiet (fail)
    go_wp2_with fail
    go_ret
    exact .no HO.out rfl (below_drewN HA.out _)
  · rw [if_neg hn] at HO
    go_enter Tryz.func96, Tryz.ntmps96
    simp only [chC]
    go_wp2_with fail
    go_quiet (fail)
    go_wp2_with fail
    go_ret
    exact .yes _ v T HO.out rfl ((H1.out.drewN _).reserve c.n) ((below_drewN HA.out _).setCell hlow _)
set_option maxHeartbeats 2000000 in
theorem d_submit (h : Kp O base w kb qb v T m s) (hW : Wf m s) (hc : Rc.check c = 0) (hk : c.k = 2) :
    Calls Tryz.prog 97 #[.pointer (some ⟨kb, 0, none⟩), .agg (chC c t)] w (TP O base m s c kb qb w) := by
  have H1 := hide (h.below (below_alloc w (.cells (chC c t) 78)))
  have c0 : (w.alloc (.cells (chC c t) 78)).cell? ⟨kb, 0, none⟩ = some (.pointer (some ⟨qb, 0, none⟩)) := Lib.cell?_alloc_some _ h.c0
  have hlt := h.lt
  have hlow := h.low
  have HA : Hid (Below base w (w.alloc (.cells (chC c t) 78))) := hide ((Below.refl _ w).alloc (by omega) _)
  have HN : Hid ((w.alloc (.cells (chC c t) 78)).heap[w.heap.size]? = some (.cells (chC c t) 78 (0, 0))) := hide (heap_alloc_new w _)
  have hsz := World.size_alloc w (.cells (chC c t) 78)
  have HQ := hide (submit_any H1.out.q)
  have HO := hide (one_2 (m := m) (s := s) hc hk)
  have HF : Hid (∀ g, Ft qb v g → base ≤ g ∧ g < w.heap.size) := hide h.q.ftlt
  have hP := hW.len
  clear h hc hk hW
  go_enter Tryz.func97, Tryz.ntmps97
  simp only [chC] at H1 c0 HA HN hsz HQ ⊢
  go_wp2_with fail
  generalize w.alloc _ = W at *
  refine HQ.out.mono ?_
  rintro e w1 ⟨rfl, v', hq, hm⟩
  have H2 := hide (H1.out.mv hm hq)
  have hB1 := hm.below (B := base) (by omega) (fun g hg => (HF.out g hg).1)
  have HB := hide (HA.out.trans hB1)
  have hN1 := (hm.block w.heap.size (by omega) (fun hf => by have := (HF.out _ hf).2; omega)).trans HN.out
  have d2 : w1.cell? ⟨w.heap.size, 2, none⟩ = some (.int .i64 c.jo) := by simp [World.cell?, hN1]
  have d8 : w1.cell? ⟨w.heap.size, 8, none⟩ = some (.string c.pr) := by simp [World.cell?, hN1]
  have hsz1 : w.heap.size < w1.heap.size := lt_of_block hN1
  clear hq hm hB1 hN1 HQ H1 HA HN c0 hsz HF
  unfold sbE sbJ
  unfold sbL at H2
  by_cases hl : s.L.length < 8
  · rw [if_pos hl, if_pos hl]
    rw [if_pos hl] at H2
    by_cases hj : c.jo = (s.L.length : Int) + 1
    · rw [if_pos ⟨hl, hj⟩] at HO
      have hp := H2.out.cp hl
      have hq := H2.out.cl hl
      have hz := H2.out.z
      have hkl := H2.out.lt
      have HK := hide (H2.out.paper hP hl c.pr)
      rw [hj] at d2
      have e1 : (s.L.length : Int) + 1 - 1 = (s.L.length : Int) := by omega
      generalize s.L.length = n at *
      clear H2
      go_wp2_with fail
      go_region
      go_wp2_with fail
      go_ret
      exact .yes _ _ _ HO.out rfl HK.out.drew (((HB.out.setCell hlow _).setCell hlow _).drew)
    · rw [if_neg (fun x => hj x.2)] at HO
      have hj' : ¬ ((s.L.length : Int) + 1 = c.jo) := fun x => hj x.symm
      generalize s.L.length = n at *
      go_wp2_with fail
      go_ret
      exact .no HO.out rfl HB.out
  · rw [if_neg hl, if_neg hl]
    rw [if_neg (fun x => hl x.1)] at HO
    go_wp2_with fail
    go_ret
    exact .no HO.out rfl HB.out
end
end Go.Proofs.YtepondcflkledaaGreat.S
end
