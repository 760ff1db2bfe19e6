import Derived.Test.YtlajlggoakgmgaaMgAS
import Derived.Deep.WholeRow

section
namespace Go.Proofs.Ytlajlggoakgmgaa.S
open Go.RowKit
open Rc (Ch)
open Q (Rr rr0 nrow fnd grE grL exE exL seE seL hix gb rowR grt xp stl Qm Ft Mv qclone_any)

theorem load_all {w : World} {x : Nat} {c : Array Value} {t : TypeId} (h : w.heap[x]? = some (.cells c t (0, 0))) (hs : c.size = 18) : (loadCellsFrom ⟨x, 0, none⟩ 0 18 #[]).run Try.prog w = .ok c w := by
  have := run_loadCells_list (P := Try.prog) w ⟨x, 0, none⟩ c.toList (fun j v hv => by
    rw [Addr.add_lit, Nat.zero_add, World.cell?, h]
    simpa using hv)
  rw [← hs]
  simpa [loadCells] using this
theorem load_var {w : World} {x : Nat} {c : Array Value} {t : TypeId} (h : w.heap[x]? = some (.cells c t (0, 0))) (hs : c.size = 18) : (loadVar 65 ⟨x, 0, none⟩).run Try.prog w = .ok (.agg c) w := by
  have h1 := load_all h hs
  simp [loadVar, loadCells, h1, Result.andThen]
theorem load_at {w : World} {x : Nat} {c : Array Value} {t : TypeId} (h : w.heap[x]? = some (.cells c t (0, 0))) (hs : c.size = 18) : (Instr.loadAt 65 (.pointer (some ⟨x, 0, none⟩))).run Try.prog w = .ok (.agg c) w := by
  simp only [Instr.loadAt, Instr.sureAddr, Sem.run_bind, Sem.run_pure, Result.andThen]
  exact load_var h hs
theorem load_op {w : World} {x : Nat} {c : Array Value} {t : TypeId} (h : w.heap[x]? = some (.cells c t (0, 0))) (hs : c.size = 18) {o : Oper} {f : Operand → Value} {y : Operand} (ho : o.op = .load 65 y) (hy : f y = .pointer (some ⟨x, 0, none⟩)) : (execOp f o).run Try.prog w = .ok (.value (.agg c)) w := by
  have := load_at h hs
  simp only [execOp, ho, hy, Sem.run_bind, this, Result.andThen, Sem.run_pure]
theorem store_op {w : World} {z c : Array Value} (hz : z.size = 18) (hc : c.size = 18) (h1 : c.all (·.oneCell') = true) {o : Oper} {f : Operand → Value} {y v : Operand} (ho : o.op = .store 65 y v) (hy : f y = .pointer (some ⟨w.heap.size, 0, none⟩)) (hv : f v = .agg c) : (execOp f o).run Try.prog (w.alloc (.cells z 65)) = .ok .skip (w.alloc (.cells c 65)) := by
  have := run_storeAt_new (P := Try.prog) w 65 z c (by rw [hc]; kernel_rfl) (by rw [hz, hc]) h1
  simp only [execOp, ho, hy, hv, Sem.run_bind, this, Result.andThen, Sem.run_pure]
theorem list_value {ops : Array Oper} {rest : List Oper} {o : Oper} {a : Act} {w : World} {Q : Exit → Act → World → Prop} (hg : o.guard = none) {v : Value} (hrun : (execOp a.eval o).run Try.prog w = .ok (.value v) w) (h : wpList Try.prog ops Q rest (a.put o.dst v) w) : wpList Try.prog ops Q (o :: rest) a w := by
  refine wpList_plain hg fun K hK => ?_
  unfold Oper.wp
  rw [hrun, Oper.upon_value]
  exact hK _ _ h
theorem list_skip {ops : Array Oper} {rest : List Oper} {o : Oper} {a : Act} {w w' : World} {Q : Exit → Act → World → Prop} (hg : o.guard = none) (hrun : (execOp a.eval o).run Try.prog w = .ok .skip w') (h : wpList Try.prog ops Q rest (a.put o.dst undef) w') : wpList Try.prog ops Q (o :: rest) a w := by
  refine wpList_plain hg fun K hK => ?_
  unfold Oper.wp
  rw [hrun, Oper.upon_skip]
  exact hK _ _ h
theorem tx_one {w : World} {t : Value} {l : List ByteArray} (h : Tx w t l) : t.oneCell' = true := by
  obtain ⟨p, cap, rfl, _⟩ := h
  rfl
theorem o1 (p : Option Addr) : (Value.pointer p).oneCell' = true := rfl
theorem o2 (k : IntKind) (n : Int) : (Value.int k n).oneCell' = true := rfl
theorem o3 (b : ByteArray) : (Value.string b).oneCell' = true := rfl
set_option maxHeartbeats 1000000 in
theorem kclone_any {O : Nat → Prop} {base : Nat} {w : World} {kb qb : Nat} {v : Value} {T : Nat → Value} {m : Int} {s : Sx} (h : Kp O base w kb qb v T m s) (hl : s.L.length ≤ 8) :
    Calls Try.prog 20 #[.pointer (some ⟨kb, 0, none⟩)] w fun e w' => ∃ kb' qb' v', e = .returned (.pointer (some ⟨kb', 0, none⟩)) ∧ Kp O w.heap.size w' kb' qb' v' T m s ∧ Below w.heap.size w w' := by
  obtain ⟨zc, hzc⟩ : ∃ zc : Array Value, zc = #[.pointer none, .int .i64 0, .string ByteArray.empty, .slice none 0 0, .string ByteArray.empty, .slice none 0 0, .string ByteArray.empty, .slice none 0 0, .string ByteArray.empty, .slice none 0 0, .string ByteArray.empty, .slice none 0 0, .string ByteArray.empty, .slice none 0 0, .string ByteArray.empty, .slice none 0 0, .string ByteArray.empty, .slice none 0 0] := ⟨_, rfl⟩
  have hZV : ∀ w, (zeroValue 65).run Try.prog w = .ok (.agg zc) w := fun w => by rw [hzc]; kernel_rfl
  have hzs : zc.size = 18 := by rw [hzc]; rfl
  have hzn : zc ≠ #[] := fun e => by rw [e] at hzs; cases hzs
  have hblk := h.blk
  obtain ⟨c, hc⟩ : ∃ c : Array Value, kcs qb s.res s.pa T = c := ⟨_, rfl⟩
  have hcs : c.size = 18 := by rw [← hc]; rfl
  have HC1 : Hid (c.all (·.oneCell') = true) := hide (by
    rw [← hc]
    simp [kcs, o1, o2, o3, tx_one (h.lg 0 (by decide)), tx_one (h.lg 1 (by decide)), tx_one (h.lg 2 (by decide)), tx_one (h.lg 3 (by decide)), tx_one (h.lg 4 (by decide)), tx_one (h.lg 5 (by decide)), tx_one (h.lg 6 (by decide)), tx_one (h.lg 7 (by decide))])
  rw [hc] at hblk
  have HXb := hide hblk
  have hlt := h.lt
  have HK := hide h
  have HC := hide hc
  have HQ := hide (qclone_any (h.q.below (below_alloc w (.cells c 65))) hl)
  have c0 : (w.alloc (.cells c 65)).cell? ⟨kb, 0, none⟩ = some (.pointer (some ⟨qb, 0, none⟩)) := Lib.cell?_alloc_some _ h.c0
  have hcn : c ≠ #[] := fun e => by rw [e] at hcs; cases hcs
  clear h hzc hblk hc
  go_enter Try.func20, Try.ntmps20
  go_upto_region 1 with fail
  apply wp_region_lit
  iterate 6 go_step
  refine list_value rfl (load_op HXb.out hcs rfl rfl) ?_
  simp only [Act.put, List.setIfInBounds_toArray, List.set_cons_succ, List.set_cons_zero]
  iterate 3 go_step
  refine list_skip rfl (store_op hzs hcs HC1.out rfl rfl rfl) ?_
  simp only [Act.put]
  clear HXb HC1 hZV
  have hsz := World.size_alloc w (.cells c 65)
  have HN := hide (heap_alloc_new w (.cells c 65))
  have HB := hide (below_alloc w (.cells c 65))
  generalize w.alloc (.cells c 65) = W at *
  go_wp2_with fail
  refine HQ.out.mono ?_
  rintro e w1 ⟨qb', v', rfl, hq, hb⟩
  have hnk : w1.heap[w.heap.size]? = some (.cells c 65 (0, 0)) := (hb.block _ (by omega)).trans HN.out
  have d0 : w1.cell? ⟨w.heap.size, 0, none⟩ = some (.pointer (some ⟨qb, 0, none⟩)) := by simp [World.cell?, hnk, ← HC.out]
  have z0 : w1.frozen? ⟨w.heap.size, 0, none⟩ = false := by simp [World.frozen?, hnk]
  have HF : Hid (Kp O w.heap.size (w1.setCell ⟨w.heap.size, 0, none⟩ (.pointer (some ⟨qb', 0, none⟩))) w.heap.size qb' v' T m s) := hide (by
    have hne : ∀ g, g ≠ w.heap.size → (w1.setCell ⟨w.heap.size, 0, none⟩ (.pointer (some ⟨qb', 0, none⟩))).heap[g]? = w1.heap[g]? := fun g hg => Below.heap_setCell _ ⟨w.heap.size, 0, none⟩ _ g hg
    have hft : ∀ g, Ft qb' v' g → w.heap.size < g := fun g hg => by have := (hq.ftlt g hg).1; omega
    have hold : ∀ g, g < w.heap.size → (w1.setCell ⟨w.heap.size, 0, none⟩ (.pointer (some ⟨qb', 0, none⟩))).heap[g]? = w.heap[g]? := fun g hg => (hne g (by omega)).trans ((hb.block g (by omega)).trans (HB.out.block g hg))
    refine ⟨?_, Qm.weak (hq.keep fun g hg => hne g (by have := hft g hg; omega)) (by omega), Nat.le_refl _, fun hf => by have := hft _ hf; omega, fun i hi => tx_keep (HK.out.lg i hi) (by rw [Q.setCell_size]; have := hb.size; omega) fun g hg => hold g (HK.out.tb i hi g hg), fun i hi g hg => by rw [Q.setCell_size]; have := hb.size; have := HK.out.tb i hi g hg; omega, fun i hi g hg => ⟨by have := HK.out.tb i hi g hg; omega, fun hf => by have := hft g hf; have := HK.out.tb i hi g hg; omega, (HK.out.ap i hi g hg).2.2⟩⟩
    rw [cells_set hnk, ← HC.out]
    rfl)
  have HG : Hid (Below w.heap.size w (w1.setCell ⟨w.heap.size, 0, none⟩ (.pointer (some ⟨qb', 0, none⟩)))) := hide ((HB.out.trans (hb.mono (by omega))).setCell (Nat.le_refl _) _)
  have hl1 : w.heap.size < w1.heap.size := lt_of_block hnk
  clear hq hb hnk HQ HK HN HC c0
  go_wp2_with fail
  go_ret
  exact ⟨_, _, _, rfl, HF.out, HG.out⟩
end Go.Proofs.Ytlajlggoakgmgaa.S
end

section
namespace Go.Proofs.Ytlajlggoakgmgaa.S
open Go.RowKit
open Rc (Ch)
open Q (Rr rr0 nrow fnd grE grL exE exL seE seL exJ seJ hix gb rowR grt xp stl Qm Ft Mv sbE sbJ sbL submit_any grant_any expire_any settle_any qfind_any)

theorem Kp.drewN {O : Nat → Prop} {base : Nat} {w : World} {kb qb : Nat} {v : Value} {T : Nat → Value} {m : Int} {s : Sx} (h : Kp O base w kb qb v T m s) (n : Nat) : Kp O base (w.drewN n) kb qb v T m s := h.keep (Nat.le_refl _) fun _ _ => rfl
theorem Kp.drew {O : Nat → Prop} {base : Nat} {w : World} {kb qb : Nat} {v : Value} {T : Nat → Value} {m : Int} {s : Sx} (h : Kp O base w kb qb v T m s) : Kp O base w.drew kb qb v T m s := h.keep (Nat.le_refl _) fun _ _ => rfl
theorem below_drewN {B : Nat} {w w' : World} (h : Below B w w') (n : Nat) : Below B w (w'.drewN n) := ⟨h.os, h.tape, h.output, h.size, h.block⟩
/-- what a doing answers -/
inductive TP (O : Nat → Prop) (base : Nat) (m : Int) (s : Sx) (c : Ch) (kb qb : Nat) (w : World) (e : Ending) (w' : World) : Prop
  | no : one m s c = none → e = .returned (.bool false) → Below base w w' → TP O base m s c kb qb w e w'
  | yes (s' : Sx) (v' : Value) (T' : Nat → Value) : one m s c = some s' → e = .returned (.bool true) → Kp O base w' kb qb v' T' m s' → Below base w w' → TP O base m s c kb qb w e w'
theorem one_1 {m : Int} {s : Sx} {c : Ch} (hc : Rc.check c = 0) (hk : c.k = 1) : one m s c = if c.n ≤ s.res then none else some ⟨c.n, s.L, s.P⟩ := by
  unfold one; simp [hc, hk]
theorem one_2 {m : Int} {s : Sx} {c : Ch} (hc : Rc.check c = 0) (hk : c.k = 2) : one m s c = if s.L.length < 8 ∧ c.jo = (s.L.length : Int) + 1 then some ⟨s.res, s.L ++ [nrow ((s.L.length : Int) + 1)], s.P.set s.L.length ⟨c.pr, []⟩⟩ else none := by
  unfold one; simp [hc, hk]
theorem one_3 {m : Int} {s : Sx} {c : Ch} (hc : Rc.check c = 0) (hk : c.k = 3) : one m s c = if s.res < c.ba ∨ grE s.L c.jo c.ba (2 + c.sl) c.li ≠ 0 then none else some ⟨s.res, grL s.L c.jo c.ba (2 + c.sl) c.li, s.P.set (jx c.jo) ⟨(s.pa (jx c.jo)).pr, []⟩⟩ := by
  unfold one; simp [hc, hk]
theorem one_4 {m : Int} {s : Sx} {c : Ch} (hc : Rc.check c = 0) (hk : c.k = 4) : one m s c = if (fnd c.ba s.L = rr0 ∨ (fnd c.ba s.L).st ≠ 2) ∨ 32 < (s.pa (jx (fnd c.ba s.L).job)).lg.length + c.tx.length then none else some ⟨s.res, s.L, s.P.set (jx (fnd c.ba s.L).job) ⟨(s.pa (jx (fnd c.ba s.L).job)).pr, (s.pa (jx (fnd c.ba s.L).job)).lg ++ c.tx⟩⟩ := by
  unfold one; simp [hc, hk]
theorem one_5 {m : Int} {s : Sx} {c : Ch} (hc : Rc.check c = 0) (hk : c.k = 5) : one m s c = if exE s.L c.ba = 0 then some ⟨s.res, exL m s.L c.ba, s.P⟩ else none := by
  unfold one; simp [hc, hk]
theorem one_6 {m : Int} {s : Sx} {c : Ch} (hc : Rc.check c = 0) (hk : c.k = 6) : one m s c = if seE s.L c.ba c.rc (c.rb : Int) = 0 then some ⟨s.res, seL s.L c.ba c.rc (c.rb : Int), s.P⟩ else none := by
  unfold one; simp [hc, hk]
section
variable {O : Nat → Prop} {base : Nat} {w : World} {kb qb : Nat} {v : Value} {T : Nat → Value} {m : Int} {s : Sx} {c : Ch} {t : Value}
set_option maxHeartbeats 1000000 in
theorem d_reserve (h : Kp O base w kb qb v T m s) (hc : Rc.check c = 0) (hk : c.k = 1) :
    Calls Try.prog 44 #[.pointer (some ⟨kb, 0, none⟩), .agg (chC c t)] w (TP O base m s c kb qb w) := by
  have H1 := hide (h.below (below_alloc w (.cells (chC c t) 69)))
  have c1 : (w.alloc (.cells (chC c t) 69)).cell? ⟨kb, 1, none⟩ = some (.int .i64 s.res) := Lib.cell?_alloc_some _ h.c1
  have hlt := h.lt
  have hlow := h.low
  have HA : Hid (Below base w (w.alloc (.cells (chC c t) 69))) := hide ((Below.refl _ w).alloc (by omega) _)
  have z1 : ∀ k, (w.alloc (.cells (chC c t) 69)).frozen? ⟨kb, k, none⟩ = false := H1.out.z
  have HO := hide (one_1 (m := m) (s := s) hc hk)
  clear h hc hk
  simp only [chC] at H1 c1 HA z1
  by_cases hn : c.n ≤ s.res
  · rw [if_pos hn] at HO
    go_enter Try.func44, Try.ntmps44
    simp only [chC]
    go_wp2_with fail
    go_quiet (fail)
    go_wp2_with fail
    go_ret
    exact .no HO.out rfl (below_drewN HA.out _)
  · rw [if_neg hn] at HO
    go_enter Try.func44, Try.ntmps44
    simp only [chC]
    go_wp2_with fail
    go_quiet (fail)
    go_wp2_with fail
    go_ret
    exact .yes _ v T HO.out rfl ((H1.out.drewN _).reserve c.n) ((below_drewN HA.out _).setCell hlow _)
set_option maxHeartbeats 2000000 in
theorem d_submit (h : Kp O base w kb qb v T m s) (hW : Wf m s) (hc : Rc.check c = 0) (hk : c.k = 2) :
    Calls Try.prog 45 #[.pointer (some ⟨kb, 0, none⟩), .agg (chC c t)] w (TP O base m s c kb qb w) := by
  have H1 := hide (h.below (below_alloc w (.cells (chC c t) 69)))
  have c0 : (w.alloc (.cells (chC c t) 69)).cell? ⟨kb, 0, none⟩ = some (.pointer (some ⟨qb, 0, none⟩)) := Lib.cell?_alloc_some _ h.c0
  have hlt := h.lt
  have hlow := h.low
  have HA : Hid (Below base w (w.alloc (.cells (chC c t) 69))) := hide ((Below.refl _ w).alloc (by omega) _)
  have HN : Hid ((w.alloc (.cells (chC c t) 69)).heap[w.heap.size]? = some (.cells (chC c t) 69 (0, 0))) := hide (heap_alloc_new w _)
  have hsz := World.size_alloc w (.cells (chC c t) 69)
  have HQ := hide (submit_any H1.out.q)
  have HO := hide (one_2 (m := m) (s := s) hc hk)
  have HF : Hid (∀ g, Ft qb v g → base ≤ g ∧ g < w.heap.size) := hide h.q.ftlt
  have hP := hW.len
  clear h hc hk hW
  go_enter Try.func45, Try.ntmps45
  simp only [chC] at H1 c0 HA HN hsz HQ ⊢
  go_wp2_with fail
  generalize w.alloc _ = W at *
  refine HQ.out.mono ?_
  rintro e w1 ⟨rfl, v', hq, hm⟩
  have H2 := hide (H1.out.mv hm hq)
  have hB1 := hm.below (B := base) (by omega) (fun g hg => (HF.out g hg).1)
  have HB := hide (HA.out.trans hB1)
  have hN1 := (hm.block w.heap.size (by omega) (fun hf => by have := (HF.out _ hf).2; omega)).trans HN.out
  have d2 : w1.cell? ⟨w.heap.size, 2, none⟩ = some (.int .i64 c.jo) := by simp [World.cell?, hN1]
  have d8 : w1.cell? ⟨w.heap.size, 8, none⟩ = some (.string c.pr) := by simp [World.cell?, hN1]
  have hsz1 : w.heap.size < w1.heap.size := lt_of_block hN1
  clear hq hm hB1 hN1 HQ H1 HA HN c0 hsz HF
  unfold sbE sbJ
  unfold sbL at H2
  by_cases hl : s.L.length < 8
  · rw [if_pos hl, if_pos hl]
    rw [if_pos hl] at H2
    by_cases hj : c.jo = (s.L.length : Int) + 1
    · rw [if_pos ⟨hl, hj⟩] at HO
      have hp := H2.out.cp hl
      have hq := H2.out.cl hl
      have hz := H2.out.z
      have hkl := H2.out.lt
      have HK := hide (H2.out.paper hP hl c.pr)
      rw [hj] at d2
      have e1 : (s.L.length : Int) + 1 - 1 = (s.L.length : Int) := by omega
      generalize s.L.length = n at *
      clear H2
      go_wp2_with fail
      go_region
      go_wp2_with fail
      go_ret
      exact .yes _ _ _ HO.out rfl HK.out.drew (((HB.out.setCell hlow _).setCell hlow _).drew)
    · rw [if_neg (fun x => hj x.2)] at HO
      have hj' : ¬ ((s.L.length : Int) + 1 = c.jo) := fun x => hj x.symm
      generalize s.L.length = n at *
      go_wp2_with fail
      go_ret
      exact .no HO.out rfl HB.out
  · rw [if_neg hl, if_neg hl]
    rw [if_neg (fun x => hl x.1)] at HO
    go_wp2_with fail
    go_ret
    exact .no HO.out rfl HB.out
end
end Go.Proofs.Ytlajlggoakgmgaa.S
end

section
namespace Go.Proofs.Ytlajlggoakgmgaa.S
open Go.RowKit
open Rc (Ch)
open Q (Rr rr0 nrow fnd grE grL exE exL seE seL exJ seJ hix gb rowR grt xp stl Qm Ft Mv sbE sbJ sbL submit_any grant_any expire_any settle_any qfind_any)

section
variable {O : Nat → Prop} {base : Nat} {w : World} {kb qb : Nat} {v : Value} {T : Nat → Value} {m : Int} {s : Sx} {c : Ch} {t : Value}
set_option maxHeartbeats 2000000 in
theorem d_grant (h : Kp O base w kb qb v T m s) (hW : Wf m s) (hc : Rc.check c = 0) (hk : c.k = 3) :
    Calls Try.prog 46 #[.pointer (some ⟨kb, 0, none⟩), .agg (chC c t)] w (TP O base m s c kb qb w) := by
  have hg := may_G ((Rc.check_iff c).1 hc) hk
  have HO := hide (one_3 (m := m) (s := s) hc hk)
  have hsl : IntKind.i64.wrap (2 + c.sl) = 2 + c.sl := by rw [IntKind.wrap_i64]; omega
  have hlt := h.lt
  have hlow := h.low
  have HF : Hid (∀ g, Ft qb v g → base ≤ g ∧ g < w.heap.size) := hide h.q.ftlt
  obtain ⟨i, hji⟩ : ∃ i : Nat, c.jo = (i : Int) + 1 := ⟨(c.jo - 1).toNat, by omega⟩
  have hi8 : i < 8 := by omega
  have hjx : jx c.jo = i := by unfold jx; omega
  rw [hjx] at HO
  have H0 : Hid (Kp O base ((w.alloc (.cells (chC c t) 69)).alloc (.cells #[.int .i64 (2 + c.sl), .int .i64 c.li] 40)) kb qb v T m s) := hide ((h.below (below_alloc w _)).below (below_alloc _ _))
  have hsz := World.size_alloc w (.cells (chC c t) 69)
  have HA : Hid (Below base w ((w.alloc (.cells (chC c t) 69)).alloc (.cells #[.int .i64 (2 + c.sl), .int .i64 c.li] 40))) := hide (((Below.refl _ w).alloc (by omega) _).alloc (by omega) _)
  have HS2 : Hid (((w.alloc (.cells (chC c t) 69)).alloc (.cells #[.int .i64 (2 + c.sl), .int .i64 c.li] 40)).heap[w.heap.size]? = some (.cells (chC c t) 69 (0, 0))) := hide (((below_alloc (w.alloc (.cells (chC c t) 69)) _).block _ (by omega)).trans (heap_alloc_new w _))
  have HS3 : Hid (((w.alloc (.cells (chC c t) 69)).alloc (.cells #[.int .i64 (2 + c.sl), .int .i64 c.li] 40)).heap[w.heap.size + 1]? = some (.cells #[.int .i64 (2 + c.sl), .int .i64 c.li] 40 (0, 0))) := hide (by rw [← hsz]; exact heap_alloc_new _ _)
  have hs2 := World.size_alloc (w.alloc (.cells (chC c t) 69)) (.cells #[.int .i64 (2 + c.sl), .int .i64 c.li] 40)
  rw [hsz] at hs2
  simp only [chC] at H0 HA HS2 HS3 hs2 hsz
  have H1 := H0
  have HS1 := hide H1.out.blk
  have hP := hW.len
  have HQ := hide (grant_any H1.out.drew.q hW.ok c.jo c.ba (2 + c.sl) c.li)
  have k0 := H1.out.c0
  have k1 := H1.out.c1
  have HCe : Hid (∀ w' : World, (fun w' => w'.heap[kb]? = some (.cells (kcs qb s.res s.pa T) 65 (0, 0)) ∧ w'.heap[w.heap.size]? = some (.cells #[.int .i64 c.k, .int .i64 c.n, .int .i64 c.jo, .int .i64 c.ba, .int .i64 c.sl, .int .i64 c.li, .int .i64 c.rc, .int .u64 (c.rb : Int), .string c.pr, t] 69 (0, 0)) ∧ w'.heap[w.heap.size + 1]? = some (.cells #[.int .i64 (2 + c.sl), .int .i64 c.li] 40 (0, 0))) w' → w'.cell? ⟨kb, 0, none⟩ = some (.pointer (some ⟨qb, 0, none⟩)) ∧ w'.cell? ⟨kb, 1, none⟩ = some (.int .i64 s.res) ∧ w'.cell? ⟨w.heap.size, 2, none⟩ = some (.int .i64 c.jo) ∧ w'.cell? ⟨w.heap.size, 3, none⟩ = some (.int .i64 c.ba) ∧ w'.cell? ⟨w.heap.size + 1, 0, none⟩ = some (.int .i64 (2 + c.sl)) ∧ w'.cell? ⟨w.heap.size + 1, 1, none⟩ = some (.int .i64 c.li)) := hide fun w' hw => by
    obtain ⟨h1, h2, h3⟩ := hw
    simp [World.cell?, h1, h2, h3, kcs]
  have HJ := hide hji
  clear h hc hk H0 hjx hji hg
  by_cases hb : s.res < c.ba
  · rw [if_pos (.inl hb)] at HO
    have b0 : decide (s.res < c.ba) = true := decide_eq_true hb
    have b1 : decide (c.ba > s.res) = true := decide_eq_true hb
    clear HQ
    go_enter Try.func46, Try.ntmps46
    simp only [chC]
    go_upto_region 2 with fail
    have q2 := (HCe.out _ ⟨HS1.out, HS2.out, HS3.out⟩)
    obtain ⟨q0, q1, q2, q3, q4, q5⟩ := q2
    generalize (w.alloc _).alloc _ = W at *
    go_quiet (fail)
    go_wp2_with fail
    go_ret
    exact .no HO.out rfl (below_drewN HA.out _)
  have b0 : decide (s.res < c.ba) = false := decide_eq_false hb
  have b1 : decide (c.ba > s.res) = false := decide_eq_false hb
  have hbw : base ≤ ((w.alloc (.cells #[.int .i64 c.k, .int .i64 c.n, .int .i64 c.jo, .int .i64 c.ba, .int .i64 c.sl, .int .i64 c.li, .int .i64 c.rc, .int .u64 (c.rb : Int), .string c.pr, t] 69)).alloc (.cells #[.int .i64 (2 + c.sl), .int .i64 c.li] 40)).heap.size := by omega
  have hAw : w.heap.size < ((w.alloc (.cells #[.int .i64 c.k, .int .i64 c.n, .int .i64 c.jo, .int .i64 c.ba, .int .i64 c.sl, .int .i64 c.li, .int .i64 c.rc, .int .u64 (c.rb : Int), .string c.pr, t] 69)).alloc (.cells #[.int .i64 (2 + c.sl), .int .i64 c.li] 40)).heap.size := by omega
  have hAx : w.heap.size + 1 < ((w.alloc (.cells #[.int .i64 c.k, .int .i64 c.n, .int .i64 c.jo, .int .i64 c.ba, .int .i64 c.sl, .int .i64 c.li, .int .i64 c.rc, .int .u64 (c.rb : Int), .string c.pr, t] 69)).alloc (.cells #[.int .i64 (2 + c.sl), .int .i64 c.li] 40)).heap.size := by omega
  by_cases he : grE s.L c.jo c.ba (2 + c.sl) c.li = 0
  · rw [if_neg (fun x => x.elim hb (fun y => y he))] at HO
    generalize grL s.L c.jo c.ba (2 + c.sl) c.li = L' at *
    generalize grE s.L c.jo c.ba (2 + c.sl) c.li = G at *
    subst he
    clear hW
    go_enter Try.func46, Try.ntmps46
    simp only [chC]
    go_upto_region 2 with fail
    generalize (w.alloc _).alloc _ = W at *
    refine wp_region_held_drew (S := fun w' => w'.heap[kb]? = some (.cells (kcs qb s.res s.pa T) 65 (0, 0)) ∧ w'.heap[w.heap.size]? = some (.cells #[.int .i64 c.k, .int .i64 c.n, .int .i64 c.jo, .int .i64 c.ba, .int .i64 c.sl, .int .i64 c.li, .int .i64 c.rc, .int .u64 (c.rb : Int), .string c.pr, t] 69 (0, 0)) ∧ w'.heap[w.heap.size + 1]? = some (.cells #[.int .i64 (2 + c.sl), .int .i64 c.li] 40 (0, 0))) (by kernel_rfl) (⟨HS1.out, HS2.out, HS3.out⟩) (fun hHeld => ?_)
    refine wpAnyH_take (i := 0) (v := .pointer (some ⟨w.heap.size, 3, none⟩)) rfl (by kernel_rfl) (by kernel_rfl) (by kernel_rfl) (fun _ _ _ h => h) (Or.inl ⟨by kernel_rfl, fun w1 hSw => by clear hHeld; obtain ⟨k0, k1, k2, k3, k4, k5⟩ := HCe.out _ hSw; go_simp⟩) hHeld ?_
    try simp only [Act.put]
    try simp only [List.getElem_toArray]
    try simp only [List.getElem_cons_succ]
    try simp only [List.getElem_cons_zero]
    try simp only [List.setIfInBounds_toArray]
    try simp only [List.set_cons_succ, List.set_cons_zero]
    refine wpAnyH_take (i := 1) (v := .int .i64 c.ba) rfl (by kernel_rfl) (by kernel_rfl) (by kernel_rfl) (fun _ _ _ h => h) (Or.inl ⟨by kernel_rfl, fun w1 hSw => by clear hHeld; obtain ⟨k0, k1, k2, k3, k4, k5⟩ := HCe.out _ hSw; go_simp⟩) hHeld ?_
    try simp only [Act.put]
    try simp only [List.getElem_toArray]
    try simp only [List.getElem_cons_succ]
    try simp only [List.getElem_cons_zero]
    try simp only [List.setIfInBounds_toArray]
    try simp only [List.set_cons_succ, List.set_cons_zero]
    refine wpAnyH_take (i := 2) (v := .pointer (some ⟨kb, 0, none⟩)) rfl (by kernel_rfl) (by kernel_rfl) (by kernel_rfl) (fun _ _ _ h => h) (Or.inl ⟨by kernel_rfl, fun w1 hSw => by clear hHeld; obtain ⟨k0, k1, k2, k3, k4, k5⟩ := HCe.out _ hSw; go_simp⟩) hHeld ?_
    try simp only [Act.put]
    try simp only [List.getElem_toArray]
    try simp only [List.getElem_cons_succ]
    try simp only [List.getElem_cons_zero]
    try simp only [List.setIfInBounds_toArray]
    try simp only [List.set_cons_succ, List.set_cons_zero]
    refine wpAnyH_take (i := 3) (v := .pointer (some ⟨kb, 0, none⟩)) rfl (by kernel_rfl) (by kernel_rfl) (by kernel_rfl) (fun _ _ _ h => h) (Or.inl ⟨by kernel_rfl, fun w1 hSw => by clear hHeld; obtain ⟨k0, k1, k2, k3, k4, k5⟩ := HCe.out _ hSw; go_simp⟩) hHeld ?_
    try simp only [Act.put]
    try simp only [List.getElem_toArray]
    try simp only [List.getElem_cons_succ]
    try simp only [List.getElem_cons_zero]
    try simp only [List.setIfInBounds_toArray]
    try simp only [List.set_cons_succ, List.set_cons_zero]
    refine wpAnyH_take (i := 4) (v := .pointer (some ⟨kb, 1, none⟩)) rfl (by kernel_rfl) (by kernel_rfl) (by kernel_rfl) (fun _ _ _ h => h) (Or.inl ⟨by kernel_rfl, fun w1 hSw => by clear hHeld; obtain ⟨k0, k1, k2, k3, k4, k5⟩ := HCe.out _ hSw; go_simp⟩) hHeld ?_
    try simp only [Act.put]
    try simp only [List.getElem_toArray]
    try simp only [List.getElem_cons_succ]
    try simp only [List.getElem_cons_zero]
    try simp only [List.setIfInBounds_toArray]
    try simp only [List.set_cons_succ, List.set_cons_zero]
    refine wpAnyH_take (i := 5) (v := .int .i64 s.res) rfl (by kernel_rfl) (by kernel_rfl) (by kernel_rfl) (fun _ _ _ h => h) (Or.inl ⟨by kernel_rfl, fun w1 hSw => by clear hHeld; obtain ⟨k0, k1, k2, k3, k4, k5⟩ := HCe.out _ hSw; go_simp⟩) hHeld ?_
    try simp only [Act.put]
    try simp only [List.getElem_toArray]
    try simp only [List.getElem_cons_succ]
    try simp only [List.getElem_cons_zero]
    try simp only [List.setIfInBounds_toArray]
    try simp only [List.set_cons_succ, List.set_cons_zero]
    refine wpAnyH_take (i := 6) (v := .bool false) rfl (by kernel_rfl) (by kernel_rfl) (by kernel_rfl) (fun _ _ _ h => h) (Or.inl ⟨by kernel_rfl, fun w1 hSw => by clear hHeld; obtain ⟨k0, k1, k2, k3, k4, k5⟩ := HCe.out _ hSw; go_simp⟩) hHeld ?_
    try simp only [Act.put]
    try simp only [List.getElem_toArray]
    try simp only [List.getElem_cons_succ]
    try simp only [List.getElem_cons_zero]
    try simp only [List.setIfInBounds_toArray]
    try simp only [List.set_cons_succ, List.set_cons_zero]
    refine wpAnyH_take (i := 7) (v := .bool false) rfl (by kernel_rfl) (by kernel_rfl) (by kernel_rfl) (fun _ _ _ h => h) (Or.inl ⟨by kernel_rfl, fun w1 hSw => by clear hHeld; obtain ⟨k0, k1, k2, k3, k4, k5⟩ := HCe.out _ hSw; go_simp⟩) hHeld ?_
    try simp only [Act.put]
    try simp only [List.getElem_toArray]
    try simp only [List.getElem_cons_succ]
    try simp only [List.getElem_cons_zero]
    try simp only [List.setIfInBounds_toArray]
    try simp only [List.set_cons_succ, List.set_cons_zero]
    refine wpAnyH_take (i := 8) (v := .pointer (some ⟨kb, 0, none⟩)) rfl (by kernel_rfl) (by kernel_rfl) (by kernel_rfl) (fun _ _ _ h => h) (Or.inl ⟨by kernel_rfl, fun w1 hSw => by clear hHeld; obtain ⟨k0, k1, k2, k3, k4, k5⟩ := HCe.out _ hSw; go_simp⟩) hHeld ?_
    try simp only [Act.put]
    try simp only [List.getElem_toArray]
    try simp only [List.getElem_cons_succ]
    try simp only [List.getElem_cons_zero]
    try simp only [List.setIfInBounds_toArray]
    try simp only [List.set_cons_succ, List.set_cons_zero]
    refine wpAnyH_take (i := 9) (v := .pointer (some ⟨kb, 0, none⟩)) rfl (by kernel_rfl) (by kernel_rfl) (by kernel_rfl) (fun _ _ _ h => h) (Or.inl ⟨by kernel_rfl, fun w1 hSw => by clear hHeld; obtain ⟨k0, k1, k2, k3, k4, k5⟩ := HCe.out _ hSw; go_simp⟩) hHeld ?_
    try simp only [Act.put]
    try simp only [List.getElem_toArray]
    try simp only [List.getElem_cons_succ]
    try simp only [List.getElem_cons_zero]
    try simp only [List.setIfInBounds_toArray]
    try simp only [List.set_cons_succ, List.set_cons_zero]
    refine wpAnyH_take (i := 10) (v := .pointer (some ⟨kb, 0, none⟩)) rfl (by kernel_rfl) (by kernel_rfl) (by kernel_rfl) (fun _ _ _ h => h) (Or.inl ⟨by kernel_rfl, fun w1 hSw => by clear hHeld; obtain ⟨k0, k1, k2, k3, k4, k5⟩ := HCe.out _ hSw; go_simp⟩) hHeld ?_
    try simp only [Act.put]
    try simp only [List.getElem_toArray]
    try simp only [List.getElem_cons_succ]
    try simp only [List.getElem_cons_zero]
    try simp only [List.setIfInBounds_toArray]
    try simp only [List.set_cons_succ, List.set_cons_zero]
    refine wpAnyH_take (i := 11) (v := .pointer (some ⟨qb, 0, none⟩)) rfl (by kernel_rfl) (by kernel_rfl) (by kernel_rfl) (fun _ _ _ h => h) (Or.inl ⟨by kernel_rfl, fun w1 hSw => by clear hHeld; obtain ⟨k0, k1, k2, k3, k4, k5⟩ := HCe.out _ hSw; go_simp⟩) hHeld ?_
    try simp only [Act.put]
    try simp only [List.getElem_toArray]
    try simp only [List.getElem_cons_succ]
    try simp only [List.getElem_cons_zero]
    try simp only [List.setIfInBounds_toArray]
    try simp only [List.set_cons_succ, List.set_cons_zero]
    refine wpAnyH_take (i := 12) (v := .pointer (some ⟨w.heap.size, 2, none⟩)) rfl (by kernel_rfl) (by kernel_rfl) (by kernel_rfl) (fun _ _ _ h => h) (Or.inl ⟨by kernel_rfl, fun w1 hSw => by clear hHeld; obtain ⟨k0, k1, k2, k3, k4, k5⟩ := HCe.out _ hSw; go_simp⟩) hHeld ?_
    try simp only [Act.put]
    try simp only [List.getElem_toArray]
    try simp only [List.getElem_cons_succ]
    try simp only [List.getElem_cons_zero]
    try simp only [List.setIfInBounds_toArray]
    try simp only [List.set_cons_succ, List.set_cons_zero]
    refine wpAnyH_take (i := 13) (v := .int .i64 c.jo) rfl (by kernel_rfl) (by kernel_rfl) (by kernel_rfl) (fun _ _ _ h => h) (Or.inl ⟨by kernel_rfl, fun w1 hSw => by clear hHeld; obtain ⟨k0, k1, k2, k3, k4, k5⟩ := HCe.out _ hSw; go_simp⟩) hHeld ?_
    try simp only [Act.put]
    try simp only [List.getElem_toArray]
    try simp only [List.getElem_cons_succ]
    try simp only [List.getElem_cons_zero]
    try simp only [List.setIfInBounds_toArray]
    try simp only [List.set_cons_succ, List.set_cons_zero]
    refine wpAnyH_take (i := 14) (v := .pointer (some ⟨w.heap.size, 3, none⟩)) rfl (by kernel_rfl) (by kernel_rfl) (by kernel_rfl) (fun _ _ _ h => h) (Or.inl ⟨by kernel_rfl, fun w1 hSw => by clear hHeld; obtain ⟨k0, k1, k2, k3, k4, k5⟩ := HCe.out _ hSw; go_simp⟩) hHeld ?_
    try simp only [Act.put]
    try simp only [List.getElem_toArray]
    try simp only [List.getElem_cons_succ]
    try simp only [List.getElem_cons_zero]
    try simp only [List.setIfInBounds_toArray]
    try simp only [List.set_cons_succ, List.set_cons_zero]
    refine wpAnyH_take (i := 15) (v := .int .i64 c.ba) rfl (by kernel_rfl) (by kernel_rfl) (by kernel_rfl) (fun _ _ _ h => h) (Or.inl ⟨by kernel_rfl, fun w1 hSw => by clear hHeld; obtain ⟨k0, k1, k2, k3, k4, k5⟩ := HCe.out _ hSw; go_simp⟩) hHeld ?_
    try simp only [Act.put]
    try simp only [List.getElem_toArray]
    try simp only [List.getElem_cons_succ]
    try simp only [List.getElem_cons_zero]
    try simp only [List.setIfInBounds_toArray]
    try simp only [List.set_cons_succ, List.set_cons_zero]
    refine wpAnyH_take (i := 16) (v := .agg #[.int .i64 (2 + c.sl), .int .i64 c.li]) rfl (by kernel_rfl) (by kernel_rfl) (by kernel_rfl) (fun _ _ _ h => h) (Or.inl ⟨by kernel_rfl, fun w1 hSw => by clear hHeld; obtain ⟨k0, k1, k2, k3, k4, k5⟩ := HCe.out _ hSw; go_simp⟩) hHeld ?_
    try simp only [Act.put]
    try simp only [List.getElem_toArray]
    try simp only [List.getElem_cons_succ]
    try simp only [List.getElem_cons_zero]
    try simp only [List.setIfInBounds_toArray]
    try simp only [List.set_cons_succ, List.set_cons_zero]
    refine wpAnyH_ready (rs := [17]) (by kernel_rfl) (by simp) ?_
    refine AllReadyH.cons rfl (fun K hK => ?_) AllReadyH.nil
    go_simp
    refine HQ.out.mono ?_
    rintro e V1 ⟨rfl, hq, hm⟩
    have H2 := hide (H1.out.drew.mv hm hq)
    have HB := hide (HA.out.drew.trans (hm.below (B := base) hbw (fun g hg => (HF.out g hg).1)))
    have HN1 := hide ((hm.block w.heap.size hAw (fun hf => Nat.lt_irrefl _ (HF.out _ hf).2)).trans HS2.out)
    have HN2 := hide ((hm.block (w.heap.size + 1) hAx (fun hf => Nat.lt_irrefl _ (Nat.lt_of_le_of_lt (Nat.le_succ _) (HF.out _ hf).2))).trans HS3.out)
    clear hq hm
    refine hK.out _ _ (⟨H2.out.blk, HN1.out, HN2.out⟩) (fun hHeld => ?_)
    clear hK K
    try simp only [Act.put]
    try simp only [List.getElem_toArray]
    try simp only [List.getElem_cons_succ]
    try simp only [List.getElem_cons_zero]
    try simp only [List.setIfInBounds_toArray]
    try simp only [List.set_cons_succ, List.set_cons_zero]
    refine wpAnyH_take (i := 18) (v := .bool false) rfl (by kernel_rfl) (by kernel_rfl) (by kernel_rfl) (fun _ _ _ h => h) (Or.inl ⟨by kernel_rfl, fun w1 hSw => by clear hHeld; obtain ⟨k0, k1, k2, k3, k4, k5⟩ := HCe.out _ hSw; go_simp⟩) hHeld ?_
    try simp only [Act.put]
    try simp only [List.getElem_toArray]
    try simp only [List.getElem_cons_succ]
    try simp only [List.getElem_cons_zero]
    try simp only [List.setIfInBounds_toArray]
    try simp only [List.set_cons_succ, List.set_cons_zero]
    refine wpAnyH_take (i := 19) (v := .bool false) rfl (by kernel_rfl) (by kernel_rfl) (by kernel_rfl) (fun _ _ _ h => h) (Or.inl ⟨by kernel_rfl, fun w1 hSw => by clear hHeld; obtain ⟨k0, k1, k2, k3, k4, k5⟩ := HCe.out _ hSw; go_simp⟩) hHeld ?_
    try simp only [Act.put]
    try simp only [List.getElem_toArray]
    try simp only [List.getElem_cons_succ]
    try simp only [List.getElem_cons_zero]
    try simp only [List.setIfInBounds_toArray]
    try simp only [List.set_cons_succ, List.set_cons_zero]
    refine wpAnyH_done (by kernel_rfl) ?_ _
    have hcl : V1.cell? ⟨kb, 2 + i * 2 + 1, none⟩ = some (T i) := H2.out.cl hi8
    have hz := H2.out.z
    have hkl := H2.out.lt
    have d2 : V1.cell? ⟨w.heap.size, 2, none⟩ = some (.int .i64 ((i : Int) + 1)) := by simp [World.cell?, HN1.out, HJ.out]
    have HK := hide (H2.out.log hP hi8 (Tx.nil V1) (fun g hg => by simp [Value.ownBlock] at hg) (fun g hg => by simp [Value.ownBlock] at hg))
    have e1 : (i : Int) + 1 - 1 = (i : Int) := by omega
    clear H2 HQ HN1 HN2 HS1 HS2 HS3 HCe
    go_wp2_with fail
    go_region
    go_wp2_with fail
    go_ret
    exact .yes _ _ _ HO.out rfl HK.out.drew ((HB.out.setCell hlow _).drew)
  · rw [if_pos (.inr he)] at HO
    generalize grL s.L c.jo c.ba (2 + c.sl) c.li = L' at *
    generalize grE s.L c.jo c.ba (2 + c.sl) c.li = G at *
    clear hW
    go_enter Try.func46, Try.ntmps46
    simp only [chC]
    go_upto_region 2 with fail
    generalize (w.alloc _).alloc _ = W at *
    refine wp_region_held_drew (S := fun w' => w'.heap[kb]? = some (.cells (kcs qb s.res s.pa T) 65 (0, 0)) ∧ w'.heap[w.heap.size]? = some (.cells #[.int .i64 c.k, .int .i64 c.n, .int .i64 c.jo, .int .i64 c.ba, .int .i64 c.sl, .int .i64 c.li, .int .i64 c.rc, .int .u64 (c.rb : Int), .string c.pr, t] 69 (0, 0)) ∧ w'.heap[w.heap.size + 1]? = some (.cells #[.int .i64 (2 + c.sl), .int .i64 c.li] 40 (0, 0))) (by kernel_rfl) (⟨HS1.out, HS2.out, HS3.out⟩) (fun hHeld => ?_)
    refine wpAnyH_take (i := 0) (v := .pointer (some ⟨w.heap.size, 3, none⟩)) rfl (by kernel_rfl) (by kernel_rfl) (by kernel_rfl) (fun _ _ _ h => h) (Or.inl ⟨by kernel_rfl, fun w1 hSw => by clear hHeld; obtain ⟨k0, k1, k2, k3, k4, k5⟩ := HCe.out _ hSw; go_simp⟩) hHeld ?_
    try simp only [Act.put]
    try simp only [List.getElem_toArray]
    try simp only [List.getElem_cons_succ]
    try simp only [List.getElem_cons_zero]
    try simp only [List.setIfInBounds_toArray]
    try simp only [List.set_cons_succ, List.set_cons_zero]
    refine wpAnyH_take (i := 1) (v := .int .i64 c.ba) rfl (by kernel_rfl) (by kernel_rfl) (by kernel_rfl) (fun _ _ _ h => h) (Or.inl ⟨by kernel_rfl, fun w1 hSw => by clear hHeld; obtain ⟨k0, k1, k2, k3, k4, k5⟩ := HCe.out _ hSw; go_simp⟩) hHeld ?_
    try simp only [Act.put]
    try simp only [List.getElem_toArray]
    try simp only [List.getElem_cons_succ]
    try simp only [List.getElem_cons_zero]
    try simp only [List.setIfInBounds_toArray]
    try simp only [List.set_cons_succ, List.set_cons_zero]
    refine wpAnyH_take (i := 2) (v := .pointer (some ⟨kb, 0, none⟩)) rfl (by kernel_rfl) (by kernel_rfl) (by kernel_rfl) (fun _ _ _ h => h) (Or.inl ⟨by kernel_rfl, fun w1 hSw => by clear hHeld; obtain ⟨k0, k1, k2, k3, k4, k5⟩ := HCe.out _ hSw; go_simp⟩) hHeld ?_
    try simp only [Act.put]
    try simp only [List.getElem_toArray]
    try simp only [List.getElem_cons_succ]
    try simp only [List.getElem_cons_zero]
    try simp only [List.setIfInBounds_toArray]
    try simp only [List.set_cons_succ, List.set_cons_zero]
    refine wpAnyH_take (i := 3) (v := .pointer (some ⟨kb, 0, none⟩)) rfl (by kernel_rfl) (by kernel_rfl) (by kernel_rfl) (fun _ _ _ h => h) (Or.inl ⟨by kernel_rfl, fun w1 hSw => by clear hHeld; obtain ⟨k0, k1, k2, k3, k4, k5⟩ := HCe.out _ hSw; go_simp⟩) hHeld ?_
    try simp only [Act.put]
    try simp only [List.getElem_toArray]
    try simp only [List.getElem_cons_succ]
    try simp only [List.getElem_cons_zero]
    try simp only [List.setIfInBounds_toArray]
    try simp only [List.set_cons_succ, List.set_cons_zero]
    refine wpAnyH_take (i := 4) (v := .pointer (some ⟨kb, 1, none⟩)) rfl (by kernel_rfl) (by kernel_rfl) (by kernel_rfl) (fun _ _ _ h => h) (Or.inl ⟨by kernel_rfl, fun w1 hSw => by clear hHeld; obtain ⟨k0, k1, k2, k3, k4, k5⟩ := HCe.out _ hSw; go_simp⟩) hHeld ?_
    try simp only [Act.put]
    try simp only [List.getElem_toArray]
    try simp only [List.getElem_cons_succ]
    try simp only [List.getElem_cons_zero]
    try simp only [List.setIfInBounds_toArray]
    try simp only [List.set_cons_succ, List.set_cons_zero]
    refine wpAnyH_take (i := 5) (v := .int .i64 s.res) rfl (by kernel_rfl) (by kernel_rfl) (by kernel_rfl) (fun _ _ _ h => h) (Or.inl ⟨by kernel_rfl, fun w1 hSw => by clear hHeld; obtain ⟨k0, k1, k2, k3, k4, k5⟩ := HCe.out _ hSw; go_simp⟩) hHeld ?_
    try simp only [Act.put]
    try simp only [List.getElem_toArray]
    try simp only [List.getElem_cons_succ]
    try simp only [List.getElem_cons_zero]
    try simp only [List.setIfInBounds_toArray]
    try simp only [List.set_cons_succ, List.set_cons_zero]
    refine wpAnyH_take (i := 6) (v := .bool false) rfl (by kernel_rfl) (by kernel_rfl) (by kernel_rfl) (fun _ _ _ h => h) (Or.inl ⟨by kernel_rfl, fun w1 hSw => by clear hHeld; obtain ⟨k0, k1, k2, k3, k4, k5⟩ := HCe.out _ hSw; go_simp⟩) hHeld ?_
    try simp only [Act.put]
    try simp only [List.getElem_toArray]
    try simp only [List.getElem_cons_succ]
    try simp only [List.getElem_cons_zero]
    try simp only [List.setIfInBounds_toArray]
    try simp only [List.set_cons_succ, List.set_cons_zero]
    refine wpAnyH_take (i := 7) (v := .bool false) rfl (by kernel_rfl) (by kernel_rfl) (by kernel_rfl) (fun _ _ _ h => h) (Or.inl ⟨by kernel_rfl, fun w1 hSw => by clear hHeld; obtain ⟨k0, k1, k2, k3, k4, k5⟩ := HCe.out _ hSw; go_simp⟩) hHeld ?_
    try simp only [Act.put]
    try simp only [List.getElem_toArray]
    try simp only [List.getElem_cons_succ]
    try simp only [List.getElem_cons_zero]
    try simp only [List.setIfInBounds_toArray]
    try simp only [List.set_cons_succ, List.set_cons_zero]
    refine wpAnyH_take (i := 8) (v := .pointer (some ⟨kb, 0, none⟩)) rfl (by kernel_rfl) (by kernel_rfl) (by kernel_rfl) (fun _ _ _ h => h) (Or.inl ⟨by kernel_rfl, fun w1 hSw => by clear hHeld; obtain ⟨k0, k1, k2, k3, k4, k5⟩ := HCe.out _ hSw; go_simp⟩) hHeld ?_
    try simp only [Act.put]
    try simp only [List.getElem_toArray]
    try simp only [List.getElem_cons_succ]
    try simp only [List.getElem_cons_zero]
    try simp only [List.setIfInBounds_toArray]
    try simp only [List.set_cons_succ, List.set_cons_zero]
    refine wpAnyH_take (i := 9) (v := .pointer (some ⟨kb, 0, none⟩)) rfl (by kernel_rfl) (by kernel_rfl) (by kernel_rfl) (fun _ _ _ h => h) (Or.inl ⟨by kernel_rfl, fun w1 hSw => by clear hHeld; obtain ⟨k0, k1, k2, k3, k4, k5⟩ := HCe.out _ hSw; go_simp⟩) hHeld ?_
    try simp only [Act.put]
    try simp only [List.getElem_toArray]
    try simp only [List.getElem_cons_succ]
    try simp only [List.getElem_cons_zero]
    try simp only [List.setIfInBounds_toArray]
    try simp only [List.set_cons_succ, List.set_cons_zero]
    refine wpAnyH_take (i := 10) (v := .pointer (some ⟨kb, 0, none⟩)) rfl (by kernel_rfl) (by kernel_rfl) (by kernel_rfl) (fun _ _ _ h => h) (Or.inl ⟨by kernel_rfl, fun w1 hSw => by clear hHeld; obtain ⟨k0, k1, k2, k3, k4, k5⟩ := HCe.out _ hSw; go_simp⟩) hHeld ?_
    try simp only [Act.put]
    try simp only [List.getElem_toArray]
    try simp only [List.getElem_cons_succ]
    try simp only [List.getElem_cons_zero]
    try simp only [List.setIfInBounds_toArray]
    try simp only [List.set_cons_succ, List.set_cons_zero]
    refine wpAnyH_take (i := 11) (v := .pointer (some ⟨qb, 0, none⟩)) rfl (by kernel_rfl) (by kernel_rfl) (by kernel_rfl) (fun _ _ _ h => h) (Or.inl ⟨by kernel_rfl, fun w1 hSw => by clear hHeld; obtain ⟨k0, k1, k2, k3, k4, k5⟩ := HCe.out _ hSw; go_simp⟩) hHeld ?_
    try simp only [Act.put]
    try simp only [List.getElem_toArray]
    try simp only [List.getElem_cons_succ]
    try simp only [List.getElem_cons_zero]
    try simp only [List.setIfInBounds_toArray]
    try simp only [List.set_cons_succ, List.set_cons_zero]
    refine wpAnyH_take (i := 12) (v := .pointer (some ⟨w.heap.size, 2, none⟩)) rfl (by kernel_rfl) (by kernel_rfl) (by kernel_rfl) (fun _ _ _ h => h) (Or.inl ⟨by kernel_rfl, fun w1 hSw => by clear hHeld; obtain ⟨k0, k1, k2, k3, k4, k5⟩ := HCe.out _ hSw; go_simp⟩) hHeld ?_
    try simp only [Act.put]
    try simp only [List.getElem_toArray]
    try simp only [List.getElem_cons_succ]
    try simp only [List.getElem_cons_zero]
    try simp only [List.setIfInBounds_toArray]
    try simp only [List.set_cons_succ, List.set_cons_zero]
    refine wpAnyH_take (i := 13) (v := .int .i64 c.jo) rfl (by kernel_rfl) (by kernel_rfl) (by kernel_rfl) (fun _ _ _ h => h) (Or.inl ⟨by kernel_rfl, fun w1 hSw => by clear hHeld; obtain ⟨k0, k1, k2, k3, k4, k5⟩ := HCe.out _ hSw; go_simp⟩) hHeld ?_
    try simp only [Act.put]
    try simp only [List.getElem_toArray]
    try simp only [List.getElem_cons_succ]
    try simp only [List.getElem_cons_zero]
    try simp only [List.setIfInBounds_toArray]
    try simp only [List.set_cons_succ, List.set_cons_zero]
    refine wpAnyH_take (i := 14) (v := .pointer (some ⟨w.heap.size, 3, none⟩)) rfl (by kernel_rfl) (by kernel_rfl) (by kernel_rfl) (fun _ _ _ h => h) (Or.inl ⟨by kernel_rfl, fun w1 hSw => by clear hHeld; obtain ⟨k0, k1, k2, k3, k4, k5⟩ := HCe.out _ hSw; go_simp⟩) hHeld ?_
    try simp only [Act.put]
    try simp only [List.getElem_toArray]
    try simp only [List.getElem_cons_succ]
    try simp only [List.getElem_cons_zero]
    try simp only [List.setIfInBounds_toArray]
    try simp only [List.set_cons_succ, List.set_cons_zero]
    refine wpAnyH_take (i := 15) (v := .int .i64 c.ba) rfl (by kernel_rfl) (by kernel_rfl) (by kernel_rfl) (fun _ _ _ h => h) (Or.inl ⟨by kernel_rfl, fun w1 hSw => by clear hHeld; obtain ⟨k0, k1, k2, k3, k4, k5⟩ := HCe.out _ hSw; go_simp⟩) hHeld ?_
    try simp only [Act.put]
    try simp only [List.getElem_toArray]
    try simp only [List.getElem_cons_succ]
    try simp only [List.getElem_cons_zero]
    try simp only [List.setIfInBounds_toArray]
    try simp only [List.set_cons_succ, List.set_cons_zero]
    refine wpAnyH_take (i := 16) (v := .agg #[.int .i64 (2 + c.sl), .int .i64 c.li]) rfl (by kernel_rfl) (by kernel_rfl) (by kernel_rfl) (fun _ _ _ h => h) (Or.inl ⟨by kernel_rfl, fun w1 hSw => by clear hHeld; obtain ⟨k0, k1, k2, k3, k4, k5⟩ := HCe.out _ hSw; go_simp⟩) hHeld ?_
    try simp only [Act.put]
    try simp only [List.getElem_toArray]
    try simp only [List.getElem_cons_succ]
    try simp only [List.getElem_cons_zero]
    try simp only [List.setIfInBounds_toArray]
    try simp only [List.set_cons_succ, List.set_cons_zero]
    refine wpAnyH_ready (rs := [17]) (by kernel_rfl) (by simp) ?_
    refine AllReadyH.cons rfl (fun K hK => ?_) AllReadyH.nil
    go_simp
    refine HQ.out.mono ?_
    rintro e V1 ⟨rfl, hq, hm⟩
    have H2 := hide (H1.out.drew.mv hm hq)
    have HB := hide (HA.out.drew.trans (hm.below (B := base) hbw (fun g hg => (HF.out g hg).1)))
    have HN1 := hide ((hm.block w.heap.size hAw (fun hf => Nat.lt_irrefl _ (HF.out _ hf).2)).trans HS2.out)
    have HN2 := hide ((hm.block (w.heap.size + 1) hAx (fun hf => Nat.lt_irrefl _ (Nat.lt_of_le_of_lt (Nat.le_succ _) (HF.out _ hf).2))).trans HS3.out)
    clear hq hm
    refine hK.out _ _ (⟨H2.out.blk, HN1.out, HN2.out⟩) (fun hHeld => ?_)
    clear hK K
    try simp only [Act.put]
    try simp only [List.getElem_toArray]
    try simp only [List.getElem_cons_succ]
    try simp only [List.getElem_cons_zero]
    try simp only [List.setIfInBounds_toArray]
    try simp only [List.set_cons_succ, List.set_cons_zero]
    refine wpAnyH_take (i := 18) (v := .bool true) rfl (by kernel_rfl) (by kernel_rfl) (by kernel_rfl) (fun _ _ _ h => h) (Or.inl ⟨by kernel_rfl, fun w1 hSw => by clear hHeld; obtain ⟨k0, k1, k2, k3, k4, k5⟩ := HCe.out _ hSw; go_simp⟩) hHeld ?_
    try simp only [Act.put]
    try simp only [List.getElem_toArray]
    try simp only [List.getElem_cons_succ]
    try simp only [List.getElem_cons_zero]
    try simp only [List.setIfInBounds_toArray]
    try simp only [List.set_cons_succ, List.set_cons_zero]
    refine wpAnyH_take (i := 19) (v := .bool true) rfl (by kernel_rfl) (by kernel_rfl) (by kernel_rfl) (fun _ _ _ h => h) (Or.inl ⟨by kernel_rfl, fun w1 hSw => by clear hHeld; obtain ⟨k0, k1, k2, k3, k4, k5⟩ := HCe.out _ hSw; go_simp⟩) hHeld ?_
    try simp only [Act.put]
    try simp only [List.getElem_toArray]
    try simp only [List.getElem_cons_succ]
    try simp only [List.getElem_cons_zero]
    try simp only [List.setIfInBounds_toArray]
    try simp only [List.set_cons_succ, List.set_cons_zero]
    refine wpAnyH_done (by kernel_rfl) ?_ _
    go_wp2_with fail
    go_ret
    exact .no HO.out rfl HB.out
end
end Go.Proofs.Ytlajlggoakgmgaa.S
end
