import Derived.Test.YtkfnedhllfdghaaGreatDoorMgBE
import Derived.Deep.AppendLies
import Derived.Deep.CutBlock
import Derived.Deep.DeepCutAuto

section
namespace Go.Proofs.YtkfnedhllfdghaaGreatDoor.RN
open Go.RowKit Go.Shelf
set_option maxRecDepth 20000

theorem infoEv : (Tryz.prog.info? 98).map (fun i => (i.zero, i.size, i.bytes)) = some (some (.agg #[.int .i64 0, .int .i64 0, .int .i64 0, .int .i64 0, .int .i64 0, .int .i64 0, .int .i64 0, .int .i64 0, .int .i64 0, .int .i64 0, .int .u64 0, .string ByteArray.empty, .slice none 0 0]), 13, 128) := by kernel_rfl
/-- a job and a box with what its machine did -/
structure Ax (w : World) (a : JA) (j : Jb) (A : Nat) (k : Int) (tx : ByteArray) (V : World) : Prop where
  jm : Jm V a j
  bx : V.heap[A]? = some (.cells #[.int .i64 k, .string tx] 207 (0, 0))
  bl : Below w.heap.size w V
theorem Ax.up {w : World} {a : JA} {j : Jb} {A : Nat} {k : Int} {tx : ByteArray} {V V' : World} (h : Ax w a j A k tx V) (hb : Below V.heap.size V V') : Ax w a j A k tx V' :=
  ⟨h.jm.below hb, (hb.block _ (lt_of_block h.bx)).trans h.bx, h.bl.trans (hb.mono h.bl.size)⟩
theorem Ax.tx {w : World} {a : JA} {j : Jb} {A : Nat} {k : Int} {t : ByteArray} {V : World} (h : Ax w a j A k t V) : V.cell? ⟨A, 1, none⟩ = some (.string t) := cell_of h.bx rfl
/-- behind what it emitted or wrote -/
structure NxP (w : World) (a : JA) (j : Jb) (u : Value) (V : World) : Prop where
  ex : ∃ a1, Js w a j V a1 j.nx ∧ V.ownsRow w.heap.size 98 13 u j.e1.length (ecs j.e1) ∧ ∀ b i, a1.d b i → u.ownBlock ≠ some b
/-- behind a put -/
theorem nx_put {w W1 V V4 : World} {a a' : JA} {j j1 j2 : Jb} {v : Value} {n : Nat} {xs : List Value} (h : Jm w a j) (h1 : Js w a j W1 a j1) (hb : Below W1.heap.size W1 V) (h2 : Js V a j1 V4 a' j2) (ho : V.ownsRow w.heap.size 98 13 v n xs) :
    Js w a j V4 a' j2 ∧ V4.ownsRow w.heap.size 98 13 v n xs ∧ ∀ b i, a'.d b i → v.ownBlock ≠ some b := by
  refine ⟨h1.trans (h2.pre hb), CH.own_keep ho (fun k hk => ?_), fun b i hd e => ?_⟩
  · have h3 := ho.lt k hk
    exact h2.kp.block k h3.2 (fun i hi => absurd (h.lt (JA.g_d hi)) (Nat.not_lt.2 h3.1))
  · have h3 := ho.lt b e
    rcases h2.d b i hd with h4 | h4
    · have := h.lt h4
      omega
    · omega
/-- a row that is none of its own has grown -/
theorem kp_row {V V' : World} {base n : Nat} {v : Value} {xs : List Value} (ho : V.ownsRow base 98 13 v n xs) (hg : V.grownBy V' v.ownBlock) : Kp (fun b _ => v.ownBlock = some b) V V' :=
  ⟨hg.os, hg.tape, hg.output, hg.size, fun k hk hn => hg.block k hk (fun e => hn 0 e.symm), fun k hk _ hn => World.cell?_of_block (hg.block k hk (fun e => hn e.symm)), fun k cur hc => ⟨cur, (hg.block k (lt_of_block hc) (fun e => by
    obtain ⟨cs', hd⟩ := own_blk ho e.symm
    exact CH.blk_ne hc hd (by decide) rfl)).trans hc, rfl⟩⟩
theorem Js.app {w V V' : World} {a a1 : JA} {j j1 : Jb} {n : Nat} {v : Value} {xs : List Value} (h : Js w a j V a1 j1) (ho : V.ownsRow w.heap.size 98 13 v n xs) (hg : V.grownBy V' v.ownBlock) (hn : ∀ b i, a1.d b i → v.ownBlock ≠ some b) : Js w a j V' a1 j1 :=
  ⟨h.jm.kp (kp_row ho hg) hn, h.J, h.M, h.L, h.A, h.kp.trans (kp_row ho hg) (fun b _ e => .inr (ho.lt b e).1), h.g, h.d⟩
structure Bx (a : JA) (A : Nat) (tx : ByteArray) (V : World) : Prop where
  c3 : V.cell? ⟨a.J, 3, none⟩ = some (.pointer (some ⟨a.L, 0, none⟩))
  c4 : V.cell? ⟨a.J, 4, none⟩ = some (.pointer (some ⟨a.A, 0, none⟩))
  c1 : V.cell? ⟨A, 1, none⟩ = some (.string tx)
theorem Ax.bx_ {w : World} {a : JA} {j : Jb} {A : Nat} {k : Int} {t : ByteArray} {V : World} (h : Ax w a j A k t V) : Bx a A t V := ⟨h.jm.c3_, h.jm.c4_, h.tx⟩
theorem Ax.put {w V V4 W1 : World} {a a' : JA} {j j0 j2 : Jb} {A : Nat} {k : Int} {t : ByteArray} (h : Ax W1 a j A k t V) (h0 : Jm w a j0) (hA : w.heap.size ≤ A) (h2 : Js V a j V4 a' j2) : Bx a A t V4 := by
  refine ⟨?_, ?_, ?_⟩
  · have := h2.jm.c3_
    rw [h2.J, h2.L] at this
    exact this
  · have := h2.jm.c4_
    rw [h2.J, h2.A] at this
    exact this
  · exact (h2.kp.cell A (lt_of_block h.bx) 1 (fun hg => absurd (h0.lt (JA.g_d hg)) (Nat.not_lt.2 hA))).trans h.tx
set_option maxHeartbeats 8000000 in
theorem next_any {w : World} {a : JA} {j : Jb} (h : Jm w a j) (hk : j.ok) (ho : j.m.ov = false) (hE : Env w a.M) :
    Calls Tryz.prog 87 #[.pointer (some ⟨a.J, 0, none⟩)] w fun e w' => ∃ v a', e = .returned v ∧ w'.ownsRow w.heap.size 98 13 v j.es.length (ecs j.es) ∧ Js w a j w' a' j.nx := by
  obtain ⟨iE, hiE, zE0, zE1, zE2⟩ := CH.info_parts infoEv
  have HS := hide (step_live h.mb ho hk.m hk.p.good (h.cd.cdn h.mb) hE (Nat.lt_of_le_of_lt hk.p.l2 (by decide)) (Nat.lt_of_le_of_lt hk.p.f2 (by decide)))
  have c0 := h.c0
  have HJ := hide h
  have HK := hide hk
  have HN := hide (Jb.nx_ok hk ho)
  have hX : (Im.stp j.xs j.fu j.m).2.1 = j.ak := rfl
  have hY : (Im.stp j.xs j.fu j.m).2.2 = j.tx := rfl
  have hZ : (Im.stp j.xs j.fu j.m).1 = j.mv := rfl
  rw [hX, hY, hZ] at HS
  clear h hk ho hE hX hY hZ
  go_enter Tryz.func87, Tryz.ntmps87
  go_wp2_with fail
  refine HS.out.mono ?_
  rintro e w1 ⟨rfl, hm1, hg1⟩
  have HJ1 := hide ((HJ.out.mach hg1 hm1).low (CH.below_alloc w1 (.cells #[.int .i64 (j.ak : Int), .string j.tx] 207)))
  have HX1 := hide (heap_alloc_new w1 (.cells #[.int .i64 (j.ak : Int), .string j.tx] 207))
  have HZ := hide hg1.size
  clear hm1 hg1 HS c0
  have hlA : w.heap.size ≤ w1.heap.size := HZ.out
  obtain ⟨A, hA⟩ : ∃ A, w1.heap.size = A := ⟨_, rfl⟩
  rw [hA] at HX1 hlA
  have HSz : Hid (A < (w1.alloc (.cells #[.int .i64 (j.ak : Int), .string j.tx] 207)).heap.size) := hide (lt_of_block HX1.out)
  go_upto_block 0 with fail
  try rw [hA]
  clear hA
  generalize w1.alloc (.cells #[.int .i64 (j.ak : Int), .string j.tx] 207) = W1 at *
  have x0 := cell_of (i := 0) HX1.out rfl
  have HA1 : Hid (Ax W1 a { j with m := j.mv } A (j.ak : Int) j.tx W1) := hide ⟨HJ1.out.jm, HX1.out, Below.refl _ _⟩
  have hAl : A < W1.heap.size := HSz.out
  have hlW : w.heap.size ≤ W1.heap.size := Nat.le_trans hlA (Nat.le_of_lt hAl)
  go_cut [3] (fun u V => Hid (NxP w a j u V))
  case first =>
    by_cases k1 : j.ak = 1
    · have t1 : ((j.ak : Int) == 1) = true := by rw [k1]; rfl
      have HLen := hide (fun V (hV : Ax W1 a { j with m := j.mv } A (j.ak : Int) j.tx V) => CH.len_any HK.out.lg.l hV.jm.lg)
      have HPut := hide (fun V (hV : Ax W1 a { j with m := j.mv } A (j.ak : Int) j.tx V) => jput1 hV.jm HK.out.lg j.tx)
      dsimp only at HLen HPut
      have he1 : Hid (ecs j.e1 = [] ++ [.int .i64 10, .int .i64 0, .int .i64 0, .int .i64 0, .int .i64 0, .int .i64 0, .int .i64 (j.lg.len : Int), .int .i64 0, .int .i64 0, .int .i64 0, .int .u64 0, .string j.tx, .slice none 0 0]) := hide (by unfold Jb.e1; rw [if_pos k1]; rfl)
      have hl1 : Hid (j.e1.length = 1) := hide (by unfold Jb.e1; rw [if_pos k1]; rfl)
      have HNx : Hid (j.nx = { j with m := j.mv, lg := j.lg.put j.tx }) := hide (by unfold Jb.nx Jb.lg' Jb.ar'; rw [if_pos k1, if_neg (by omega)])
      clear k1
      generalize j.lg.len = LN at *
      go_upto_region 5 with fail
      refine wp_region_held_drew (S := fun V => Ax W1 a { j with m := j.mv } A (j.ak : Int) j.tx V) (by kernel_rfl) (HA1.out.up (below_dr W1 1)) (fun hHeld => ?_)
      refine wpAnyH_take (i := 0) (v := .slice none 0 0) rfl (by kernel_rfl) (by kernel_rfl) (by kernel_rfl) (fun _ _ _ h => h) (Or.inl ⟨by kernel_rfl, fun w1 hSw => by clear hHeld; have q3 := hSw.jm.c3_; have q4 := hSw.jm.c4_; have q1 := hSw.tx; go_simp⟩) hHeld ?_
      try simp only [Act.put]
      try simp only [List.getElem_toArray]
      try simp only [List.getElem_cons_succ]
      try simp only [List.getElem_cons_zero]
      try simp only [List.setIfInBounds_toArray]
      try simp only [List.set_cons_succ, List.set_cons_zero]
      refine wpAnyH_take (i := 1) (v := .pointer (some ⟨a.J, 0, none⟩)) rfl (by kernel_rfl) (by kernel_rfl) (by kernel_rfl) (fun _ _ _ h => h) (Or.inl ⟨by kernel_rfl, fun w1 hSw => by clear hHeld; have q3 := hSw.jm.c3_; have q4 := hSw.jm.c4_; have q1 := hSw.tx; go_simp⟩) hHeld ?_
      try simp only [Act.put]
      try simp only [List.getElem_toArray]
      try simp only [List.getElem_cons_succ]
      try simp only [List.getElem_cons_zero]
      try simp only [List.setIfInBounds_toArray]
      try simp only [List.set_cons_succ, List.set_cons_zero]
      refine wpAnyH_take (i := 2) (v := .pointer (some ⟨a.J, 0, none⟩)) rfl (by kernel_rfl) (by kernel_rfl) (by kernel_rfl) (fun _ _ _ h => h) (Or.inl ⟨by kernel_rfl, fun w1 hSw => by clear hHeld; have q3 := hSw.jm.c3_; have q4 := hSw.jm.c4_; have q1 := hSw.tx; go_simp⟩) hHeld ?_
      try simp only [Act.put]
      try simp only [List.getElem_toArray]
      try simp only [List.getElem_cons_succ]
      try simp only [List.getElem_cons_zero]
      try simp only [List.setIfInBounds_toArray]
      try simp only [List.set_cons_succ, List.set_cons_zero]
      refine wpAnyH_take (i := 3) (v := .pointer (some ⟨a.J, 3, none⟩)) rfl (by kernel_rfl) (by kernel_rfl) (by kernel_rfl) (fun _ _ _ h => h) (Or.inl ⟨by kernel_rfl, fun w1 hSw => by clear hHeld; have q3 := hSw.jm.c3_; have q4 := hSw.jm.c4_; have q1 := hSw.tx; go_simp⟩) hHeld ?_
      try simp only [Act.put]
      try simp only [List.getElem_toArray]
      try simp only [List.getElem_cons_succ]
      try simp only [List.getElem_cons_zero]
      try simp only [List.setIfInBounds_toArray]
      try simp only [List.set_cons_succ, List.set_cons_zero]
      refine wpAnyH_take (i := 4) (v := .pointer (some ⟨a.L, 0, none⟩)) rfl (by kernel_rfl) (by kernel_rfl) (by kernel_rfl) (fun _ _ _ h => h) (Or.inl ⟨by kernel_rfl, fun w1 hSw => by clear hHeld; have q3 := hSw.jm.c3_; have q4 := hSw.jm.c4_; have q1 := hSw.tx; go_simp⟩) hHeld ?_
      try simp only [Act.put]
      try simp only [List.getElem_toArray]
      try simp only [List.getElem_cons_succ]
      try simp only [List.getElem_cons_zero]
      try simp only [List.setIfInBounds_toArray]
      try simp only [List.set_cons_succ, List.set_cons_zero]
      refine wpAnyH_take (i := 6) (v := .pointer (some ⟨A, 1, none⟩)) rfl (by kernel_rfl) (by kernel_rfl) (by kernel_rfl) (fun _ _ _ h => h) (Or.inl ⟨by kernel_rfl, fun w1 hSw => by clear hHeld; have q3 := hSw.jm.c3_; have q4 := hSw.jm.c4_; have q1 := hSw.tx; go_simp⟩) hHeld ?_
      try simp only [Act.put]
      try simp only [List.getElem_toArray]
      try simp only [List.getElem_cons_succ]
      try simp only [List.getElem_cons_zero]
      try simp only [List.setIfInBounds_toArray]
      try simp only [List.set_cons_succ, List.set_cons_zero]
      refine wpAnyH_take (i := 7) (v := .string j.tx) rfl (by kernel_rfl) (by kernel_rfl) (by kernel_rfl) (fun _ _ _ h => h) (Or.inl ⟨by kernel_rfl, fun w1 hSw => by clear hHeld; have q3 := hSw.jm.c3_; have q4 := hSw.jm.c4_; have q1 := hSw.tx; go_simp⟩) hHeld ?_
      try simp only [Act.put]
      try simp only [List.getElem_toArray]
      try simp only [List.getElem_cons_succ]
      try simp only [List.getElem_cons_zero]
      try simp only [List.setIfInBounds_toArray]
      try simp only [List.set_cons_succ, List.set_cons_zero]
      refine wpAnyH_ready (rs := [5]) (by kernel_rfl) (by simp) ?_
      refine AllReadyH.cons rfl (fun K hK => ?_) AllReadyH.nil
      go_simp
      refine (HLen.out _ hHeld).mono ?_
      rintro e V1 ⟨rfl, m1, hV1⟩
      have hbV : Below W1.drew.heap.size W1.drew V1 := by rw [hV1]; exact below_dr _ _
      have HS1 := hide (hHeld.up hbV)
      clear hV1 hbV m1
      refine hK.out _ _ (HS1.out) (fun hHeld => ?_)
      clear hK K
      try simp only [Act.put]
      try simp only [List.getElem_toArray]
      try simp only [List.getElem_cons_succ]
      try simp only [List.getElem_cons_zero]
      try simp only [List.setIfInBounds_toArray]
      try simp only [List.set_cons_succ, List.set_cons_zero]
      refine wpAnyH_take (i := 8) (v := .agg #[.int .i64 10, .int .i64 0, .int .i64 0, .int .i64 0, .int .i64 0, .int .i64 0, .int .i64 (LN : Int), .int .i64 0, .int .i64 0, .int .i64 0, .int .u64 0, .string j.tx, .slice none 0 0]) rfl (by kernel_rfl) (by kernel_rfl) (by kernel_rfl) (fun _ _ _ h => h) (Or.inl ⟨by kernel_rfl, fun w1 hSw => by clear hHeld; have q3 := hSw.jm.c3_; have q4 := hSw.jm.c4_; have q1 := hSw.tx; go_simp⟩) hHeld ?_
      try simp only [Act.put]
      try simp only [List.getElem_toArray]
      try simp only [List.getElem_cons_succ]
      try simp only [List.getElem_cons_zero]
      try simp only [List.setIfInBounds_toArray]
      try simp only [List.set_cons_succ, List.set_cons_zero]
      refine wpAnyH_ready (rs := [9]) (by kernel_rfl) (by simp) ?_
      refine AllReadyH.cons rfl (fun K hK => ?_) AllReadyH.nil
      go_simp
      have HS2 := hide (HS1.out.up (CH.below_alloc V1 (.cells #[.int .i64 10, .int .i64 0, .int .i64 0, .int .i64 0, .int .i64 0, .int .i64 0, .int .i64 (LN : Int), .int .i64 0, .int .i64 0, .int .i64 0, .int .u64 0, .string j.tx, .slice none 0 0] 98)))
      have HE2 := hide (heap_alloc_new V1 (.cells #[.int .i64 10, .int .i64 0, .int .i64 0, .int .i64 0, .int .i64 0, .int .i64 0, .int .i64 (LN : Int), .int .i64 0, .int .i64 0, .int .i64 0, .int .u64 0, .string j.tx, .slice none 0 0] 98))
      have hsV : W1.heap.size ≤ V1.heap.size := HS1.out.bl.size
      refine hK.out _ _ (HS2.out) (fun hHeld => ?_)
      clear hK K
      try simp only [Act.put]
      try simp only [List.getElem_toArray]
      try simp only [List.getElem_cons_succ]
      try simp only [List.getElem_cons_zero]
      try simp only [List.setIfInBounds_toArray]
      try simp only [List.set_cons_succ, List.set_cons_zero]
      refine wpAnyH_ready (rs := [10]) (by kernel_rfl) (by simp) ?_
      refine AllReadyH.cons rfl (fun K hK => ?_) AllReadyH.nil
      refine step_append_lies _ rfl (.tmp 18) (.tmp 27) 51 rfl w.heap.size 98 iE _ 13 128 Tryz.underlying51 hiE zE0 zE1 zE2 rfl (by decide) (.slice none 0 0) 0 [] rfl (World.ownsRow_nil _ _ _ _) ⟨V1.heap.size, 0, none⟩ 1 1 [.int .i64 10, .int .i64 0, .int .i64 0, .int .i64 0, .int .i64 0, .int .i64 0, .int .i64 (LN : Int), .int .i64 0, .int .i64 0, .int .i64 0, .int .u64 0, .string j.tx, .slice none 0 0] rfl rfl (World.news_of_block HE2.out) (by simp [Value.oneCell']) (by decide) (by decide) (by decide) (by rw [World.size_alloc]; omega) _ rfl ?_
      intro g3 cap3 V3 hown3 hgr3 _ hg3
      have HS3 := hide (HS2.out.up (CH.grown_below hgr3))
      have HO3 := hide hown3
      clear hown3 hgr3
      refine hK.out _ _ (HS3.out) (fun hHeld => ?_)
      clear hK K
      try simp only [Act.put]
      try simp only [List.getElem_toArray]
      try simp only [List.getElem_cons_succ]
      try simp only [List.getElem_cons_zero]
      try simp only [List.setIfInBounds_toArray]
      try simp only [List.set_cons_succ, List.set_cons_zero]
      refine wpAnyH_take (i := 11) (v := .slice (some ⟨g3, 0, none⟩) 1 cap3) rfl (by kernel_rfl) (by kernel_rfl) (by kernel_rfl) (fun _ _ _ h => h) (Or.inl ⟨by kernel_rfl, fun w1 hSw => by clear hHeld; have q3 := hSw.jm.c3_; have q4 := hSw.jm.c4_; have q1 := hSw.tx; go_simp⟩) hHeld ?_
      try simp only [Act.put]
      try simp only [List.getElem_toArray]
      try simp only [List.getElem_cons_succ]
      try simp only [List.getElem_cons_zero]
      try simp only [List.setIfInBounds_toArray]
      try simp only [List.set_cons_succ, List.set_cons_zero]
      refine wpAnyH_done (by kernel_rfl) ?_ _
      clear hHeld HS1 HS2 HE2 HLen
      go_upto_region 6 with fail
      refine wp_region_held_drew (S := fun V => Bx a A j.tx V) (by kernel_rfl) ((HS3.out.up (below_dr V3 1)).bx_) (fun hHeld => ?_)
      refine wpAnyH_take (i := 0) (v := .pointer (some ⟨a.J, 0, none⟩)) rfl (by kernel_rfl) (by kernel_rfl) (by kernel_rfl) (fun _ _ _ h => h) (Or.inl ⟨by kernel_rfl, fun w1 hSw => by clear hHeld; have q3 := hSw.c3; have q4 := hSw.c4; have q1 := hSw.c1; go_simp⟩) hHeld ?_
      try simp only [Act.put]
      try simp only [List.getElem_toArray]
      try simp only [List.getElem_cons_succ]
      try simp only [List.getElem_cons_zero]
      try simp only [List.setIfInBounds_toArray]
      try simp only [List.set_cons_succ, List.set_cons_zero]
      refine wpAnyH_take (i := 1) (v := .pointer (some ⟨a.J, 0, none⟩)) rfl (by kernel_rfl) (by kernel_rfl) (by kernel_rfl) (fun _ _ _ h => h) (Or.inl ⟨by kernel_rfl, fun w1 hSw => by clear hHeld; have q3 := hSw.c3; have q4 := hSw.c4; have q1 := hSw.c1; go_simp⟩) hHeld ?_
      try simp only [Act.put]
      try simp only [List.getElem_toArray]
      try simp only [List.getElem_cons_succ]
      try simp only [List.getElem_cons_zero]
      try simp only [List.setIfInBounds_toArray]
      try simp only [List.set_cons_succ, List.set_cons_zero]
      refine wpAnyH_take (i := 2) (v := .pointer (some ⟨a.J, 3, none⟩)) rfl (by kernel_rfl) (by kernel_rfl) (by kernel_rfl) (fun _ _ _ h => h) (Or.inl ⟨by kernel_rfl, fun w1 hSw => by clear hHeld; have q3 := hSw.c3; have q4 := hSw.c4; have q1 := hSw.c1; go_simp⟩) hHeld ?_
      try simp only [Act.put]
      try simp only [List.getElem_toArray]
      try simp only [List.getElem_cons_succ]
      try simp only [List.getElem_cons_zero]
      try simp only [List.setIfInBounds_toArray]
      try simp only [List.set_cons_succ, List.set_cons_zero]
      refine wpAnyH_take (i := 3) (v := .pointer (some ⟨a.L, 0, none⟩)) rfl (by kernel_rfl) (by kernel_rfl) (by kernel_rfl) (fun _ _ _ h => h) (Or.inl ⟨by kernel_rfl, fun w1 hSw => by clear hHeld; have q3 := hSw.c3; have q4 := hSw.c4; have q1 := hSw.c1; go_simp⟩) hHeld ?_
      try simp only [Act.put]
      try simp only [List.getElem_toArray]
      try simp only [List.getElem_cons_succ]
      try simp only [List.getElem_cons_zero]
      try simp only [List.setIfInBounds_toArray]
      try simp only [List.set_cons_succ, List.set_cons_zero]
      refine wpAnyH_take (i := 4) (v := .pointer (some ⟨A, 1, none⟩)) rfl (by kernel_rfl) (by kernel_rfl) (by kernel_rfl) (fun _ _ _ h => h) (Or.inl ⟨by kernel_rfl, fun w1 hSw => by clear hHeld; have q3 := hSw.c3; have q4 := hSw.c4; have q1 := hSw.c1; go_simp⟩) hHeld ?_
      try simp only [Act.put]
      try simp only [List.getElem_toArray]
      try simp only [List.getElem_cons_succ]
      try simp only [List.getElem_cons_zero]
      try simp only [List.setIfInBounds_toArray]
      try simp only [List.set_cons_succ, List.set_cons_zero]
      refine wpAnyH_take (i := 5) (v := .string j.tx) rfl (by kernel_rfl) (by kernel_rfl) (by kernel_rfl) (fun _ _ _ h => h) (Or.inl ⟨by kernel_rfl, fun w1 hSw => by clear hHeld; have q3 := hSw.c3; have q4 := hSw.c4; have q1 := hSw.c1; go_simp⟩) hHeld ?_
      try simp only [Act.put]
      try simp only [List.getElem_toArray]
      try simp only [List.getElem_cons_succ]
      try simp only [List.getElem_cons_zero]
      try simp only [List.setIfInBounds_toArray]
      try simp only [List.set_cons_succ, List.set_cons_zero]
      refine wpAnyH_ready (rs := [6]) (by kernel_rfl) (by simp) ?_
      refine AllReadyH.cons rfl (fun K hK => ?_) AllReadyH.nil
      go_simp
      refine (HPut.out _ (HS3.out.up (below_dr V3 1))).mono ?_
      rintro e V4 ⟨rfl, a4, hj4⟩
      have HJ4 := hide hj4
      have HB4 := hide ((HS3.out.up (below_dr V3 1)).put HJ.out hlA hj4)
      clear hj4
      refine hK.out _ _ (HB4.out) (fun hHeld => ?_)
      clear hK K
      try simp only [Act.put]
      try simp only [List.getElem_toArray]
      try simp only [List.getElem_cons_succ]
      try simp only [List.getElem_cons_zero]
      try simp only [List.setIfInBounds_toArray]
      try simp only [List.set_cons_succ, List.set_cons_zero]
      refine wpAnyH_done (by kernel_rfl) ?_ _
      go_wp2_with fail
      go_meet
      obtain ⟨b1, b2, b3⟩ := nx_put HJ.out HJ1.out HS3.out.bl (HJ4.out.pre (below_dr V3 1)) HO3.out
      exact hide ⟨a4, by rw [HNx.out]; exact b1, by rw [he1.out, hl1.out]; exact b2, b3⟩
    · by_cases k2 : j.ak = 2
      · have t1 : ((j.ak : Int) == 1) = false := by rw [k2]; rfl
        have t2 : ((j.ak : Int) == 2) = true := by rw [k2]; rfl
        have HLen := hide (fun V (hV : Ax W1 a { j with m := j.mv } A (j.ak : Int) j.tx V) => CH.len_any HK.out.ar.l hV.jm.ar)
        have HPut := hide (fun V (hV : Ax W1 a { j with m := j.mv } A (j.ak : Int) j.tx V) => jput2 hV.jm HK.out.ar j.tx)
        dsimp only at HLen HPut
        have he1 : Hid (ecs j.e1 = [] ++ [.int .i64 11, .int .i64 0, .int .i64 0, .int .i64 0, .int .i64 0, .int .i64 0, .int .i64 (j.ar.len : Int), .int .i64 0, .int .i64 0, .int .i64 0, .int .u64 0, .string j.tx, .slice none 0 0]) := hide (by unfold Jb.e1; rw [if_neg k1, if_pos k2]; rfl)
        have hl1 : Hid (j.e1.length = 1) := hide (by unfold Jb.e1; rw [if_neg k1, if_pos k2]; rfl)
        have HNx : Hid (j.nx = { j with m := j.mv, ar := j.ar.put j.tx }) := hide (by unfold Jb.nx Jb.lg' Jb.ar'; rw [if_neg k1, if_pos k2])
        clear k1 k2
        generalize j.ar.len = LN at *
        go_upto_region 8 with fail
        refine wp_region_held_drew (S := fun V => Ax W1 a { j with m := j.mv } A (j.ak : Int) j.tx V) (by kernel_rfl) (HA1.out.up (below_dr W1 1)) (fun hHeld => ?_)
        refine wpAnyH_take (i := 0) (v := .slice none 0 0) rfl (by kernel_rfl) (by kernel_rfl) (by kernel_rfl) (fun _ _ _ h => h) (Or.inl ⟨by kernel_rfl, fun w1 hSw => by clear hHeld; have q3 := hSw.jm.c3_; have q4 := hSw.jm.c4_; have q1 := hSw.tx; go_simp⟩) hHeld ?_
        try simp only [Act.put]
        try simp only [List.getElem_toArray]
        try simp only [List.getElem_cons_succ]
        try simp only [List.getElem_cons_zero]
        try simp only [List.setIfInBounds_toArray]
        try simp only [List.set_cons_succ, List.set_cons_zero]
        refine wpAnyH_take (i := 1) (v := .pointer (some ⟨a.J, 0, none⟩)) rfl (by kernel_rfl) (by kernel_rfl) (by kernel_rfl) (fun _ _ _ h => h) (Or.inl ⟨by kernel_rfl, fun w1 hSw => by clear hHeld; have q3 := hSw.jm.c3_; have q4 := hSw.jm.c4_; have q1 := hSw.tx; go_simp⟩) hHeld ?_
        try simp only [Act.put]
        try simp only [List.getElem_toArray]
        try simp only [List.getElem_cons_succ]
        try simp only [List.getElem_cons_zero]
        try simp only [List.setIfInBounds_toArray]
        try simp only [List.set_cons_succ, List.set_cons_zero]
        refine wpAnyH_take (i := 2) (v := .pointer (some ⟨a.J, 0, none⟩)) rfl (by kernel_rfl) (by kernel_rfl) (by kernel_rfl) (fun _ _ _ h => h) (Or.inl ⟨by kernel_rfl, fun w1 hSw => by clear hHeld; have q3 := hSw.jm.c3_; have q4 := hSw.jm.c4_; have q1 := hSw.tx; go_simp⟩) hHeld ?_
        try simp only [Act.put]
        try simp only [List.getElem_toArray]
        try simp only [List.getElem_cons_succ]
        try simp only [List.getElem_cons_zero]
        try simp only [List.setIfInBounds_toArray]
        try simp only [List.set_cons_succ, List.set_cons_zero]
        refine wpAnyH_take (i := 3) (v := .pointer (some ⟨a.J, 4, none⟩)) rfl (by kernel_rfl) (by kernel_rfl) (by kernel_rfl) (fun _ _ _ h => h) (Or.inl ⟨by kernel_rfl, fun w1 hSw => by clear hHeld; have q3 := hSw.jm.c3_; have q4 := hSw.jm.c4_; have q1 := hSw.tx; go_simp⟩) hHeld ?_
        try simp only [Act.put]
        try simp only [List.getElem_toArray]
        try simp only [List.getElem_cons_succ]
        try simp only [List.getElem_cons_zero]
        try simp only [List.setIfInBounds_toArray]
        try simp only [List.set_cons_succ, List.set_cons_zero]
        refine wpAnyH_take (i := 4) (v := .pointer (some ⟨a.A, 0, none⟩)) rfl (by kernel_rfl) (by kernel_rfl) (by kernel_rfl) (fun _ _ _ h => h) (Or.inl ⟨by kernel_rfl, fun w1 hSw => by clear hHeld; have q3 := hSw.jm.c3_; have q4 := hSw.jm.c4_; have q1 := hSw.tx; go_simp⟩) hHeld ?_
        try simp only [Act.put]
        try simp only [List.getElem_toArray]
        try simp only [List.getElem_cons_succ]
        try simp only [List.getElem_cons_zero]
        try simp only [List.setIfInBounds_toArray]
        try simp only [List.set_cons_succ, List.set_cons_zero]
        refine wpAnyH_take (i := 6) (v := .pointer (some ⟨A, 1, none⟩)) rfl (by kernel_rfl) (by kernel_rfl) (by kernel_rfl) (fun _ _ _ h => h) (Or.inl ⟨by kernel_rfl, fun w1 hSw => by clear hHeld; have q3 := hSw.jm.c3_; have q4 := hSw.jm.c4_; have q1 := hSw.tx; go_simp⟩) hHeld ?_
        try simp only [Act.put]
        try simp only [List.getElem_toArray]
        try simp only [List.getElem_cons_succ]
        try simp only [List.getElem_cons_zero]
        try simp only [List.setIfInBounds_toArray]
        try simp only [List.set_cons_succ, List.set_cons_zero]
        refine wpAnyH_take (i := 7) (v := .string j.tx) rfl (by kernel_rfl) (by kernel_rfl) (by kernel_rfl) (fun _ _ _ h => h) (Or.inl ⟨by kernel_rfl, fun w1 hSw => by clear hHeld; have q3 := hSw.jm.c3_; have q4 := hSw.jm.c4_; have q1 := hSw.tx; go_simp⟩) hHeld ?_
        try simp only [Act.put]
        try simp only [List.getElem_toArray]
        try simp only [List.getElem_cons_succ]
        try simp only [List.getElem_cons_zero]
        try simp only [List.setIfInBounds_toArray]
        try simp only [List.set_cons_succ, List.set_cons_zero]
        refine wpAnyH_ready (rs := [5]) (by kernel_rfl) (by simp) ?_
        refine AllReadyH.cons rfl (fun K hK => ?_) AllReadyH.nil
        go_simp
        refine (HLen.out _ hHeld).mono ?_
        rintro e V1 ⟨rfl, m1, hV1⟩
        have hbV : Below W1.drew.heap.size W1.drew V1 := by rw [hV1]; exact below_dr _ _
        have HS1 := hide (hHeld.up hbV)
        clear hV1 hbV m1
        refine hK.out _ _ (HS1.out) (fun hHeld => ?_)
        clear hK K
        try simp only [Act.put]
        try simp only [List.getElem_toArray]
        try simp only [List.getElem_cons_succ]
        try simp only [List.getElem_cons_zero]
        try simp only [List.setIfInBounds_toArray]
        try simp only [List.set_cons_succ, List.set_cons_zero]
        refine wpAnyH_take (i := 8) (v := .agg #[.int .i64 11, .int .i64 0, .int .i64 0, .int .i64 0, .int .i64 0, .int .i64 0, .int .i64 (LN : Int), .int .i64 0, .int .i64 0, .int .i64 0, .int .u64 0, .string j.tx, .slice none 0 0]) rfl (by kernel_rfl) (by kernel_rfl) (by kernel_rfl) (fun _ _ _ h => h) (Or.inl ⟨by kernel_rfl, fun w1 hSw => by clear hHeld; have q3 := hSw.jm.c3_; have q4 := hSw.jm.c4_; have q1 := hSw.tx; go_simp⟩) hHeld ?_
        try simp only [Act.put]
        try simp only [List.getElem_toArray]
        try simp only [List.getElem_cons_succ]
        try simp only [List.getElem_cons_zero]
        try simp only [List.setIfInBounds_toArray]
        try simp only [List.set_cons_succ, List.set_cons_zero]
        refine wpAnyH_ready (rs := [9]) (by kernel_rfl) (by simp) ?_
        refine AllReadyH.cons rfl (fun K hK => ?_) AllReadyH.nil
        go_simp
        have HS2 := hide (HS1.out.up (CH.below_alloc V1 (.cells #[.int .i64 11, .int .i64 0, .int .i64 0, .int .i64 0, .int .i64 0, .int .i64 0, .int .i64 (LN : Int), .int .i64 0, .int .i64 0, .int .i64 0, .int .u64 0, .string j.tx, .slice none 0 0] 98)))
        have HE2 := hide (heap_alloc_new V1 (.cells #[.int .i64 11, .int .i64 0, .int .i64 0, .int .i64 0, .int .i64 0, .int .i64 0, .int .i64 (LN : Int), .int .i64 0, .int .i64 0, .int .i64 0, .int .u64 0, .string j.tx, .slice none 0 0] 98))
        have hsV : W1.heap.size ≤ V1.heap.size := HS1.out.bl.size
        refine hK.out _ _ (HS2.out) (fun hHeld => ?_)
        clear hK K
        try simp only [Act.put]
        try simp only [List.getElem_toArray]
        try simp only [List.getElem_cons_succ]
        try simp only [List.getElem_cons_zero]
        try simp only [List.setIfInBounds_toArray]
        try simp only [List.set_cons_succ, List.set_cons_zero]
        refine wpAnyH_ready (rs := [10]) (by kernel_rfl) (by simp) ?_
        refine AllReadyH.cons rfl (fun K hK => ?_) AllReadyH.nil
        refine step_append_lies _ rfl (.tmp 38) (.tmp 47) 51 rfl w.heap.size 98 iE _ 13 128 Tryz.underlying51 hiE zE0 zE1 zE2 rfl (by decide) (.slice none 0 0) 0 [] rfl (World.ownsRow_nil _ _ _ _) ⟨V1.heap.size, 0, none⟩ 1 1 [.int .i64 11, .int .i64 0, .int .i64 0, .int .i64 0, .int .i64 0, .int .i64 0, .int .i64 (LN : Int), .int .i64 0, .int .i64 0, .int .i64 0, .int .u64 0, .string j.tx, .slice none 0 0] rfl rfl (World.news_of_block HE2.out) (by simp [Value.oneCell']) (by decide) (by decide) (by decide) (by rw [World.size_alloc]; omega) _ rfl ?_
        intro g3 cap3 V3 hown3 hgr3 _ hg3
        have HS3 := hide (HS2.out.up (CH.grown_below hgr3))
        have HO3 := hide hown3
        clear hown3 hgr3
        refine hK.out _ _ (HS3.out) (fun hHeld => ?_)
        clear hK K
        try simp only [Act.put]
        try simp only [List.getElem_toArray]
        try simp only [List.getElem_cons_succ]
        try simp only [List.getElem_cons_zero]
        try simp only [List.setIfInBounds_toArray]
        try simp only [List.set_cons_succ, List.set_cons_zero]
        refine wpAnyH_take (i := 11) (v := .slice (some ⟨g3, 0, none⟩) 1 cap3) rfl (by kernel_rfl) (by kernel_rfl) (by kernel_rfl) (fun _ _ _ h => h) (Or.inl ⟨by kernel_rfl, fun w1 hSw => by clear hHeld; have q3 := hSw.jm.c3_; have q4 := hSw.jm.c4_; have q1 := hSw.tx; go_simp⟩) hHeld ?_
        try simp only [Act.put]
        try simp only [List.getElem_toArray]
        try simp only [List.getElem_cons_succ]
        try simp only [List.getElem_cons_zero]
        try simp only [List.setIfInBounds_toArray]
        try simp only [List.set_cons_succ, List.set_cons_zero]
        refine wpAnyH_done (by kernel_rfl) ?_ _
        clear hHeld HS1 HS2 HE2 HLen
        go_upto_region 9 with fail
        refine wp_region_held_drew (S := fun V => Bx a A j.tx V) (by kernel_rfl) ((HS3.out.up (below_dr V3 1)).bx_) (fun hHeld => ?_)
        refine wpAnyH_take (i := 0) (v := .pointer (some ⟨a.J, 0, none⟩)) rfl (by kernel_rfl) (by kernel_rfl) (by kernel_rfl) (fun _ _ _ h => h) (Or.inl ⟨by kernel_rfl, fun w1 hSw => by clear hHeld; have q3 := hSw.c3; have q4 := hSw.c4; have q1 := hSw.c1; go_simp⟩) hHeld ?_
        try simp only [Act.put]
        try simp only [List.getElem_toArray]
        try simp only [List.getElem_cons_succ]
        try simp only [List.getElem_cons_zero]
        try simp only [List.setIfInBounds_toArray]
        try simp only [List.set_cons_succ, List.set_cons_zero]
        refine wpAnyH_take (i := 1) (v := .pointer (some ⟨a.J, 0, none⟩)) rfl (by kernel_rfl) (by kernel_rfl) (by kernel_rfl) (fun _ _ _ h => h) (Or.inl ⟨by kernel_rfl, fun w1 hSw => by clear hHeld; have q3 := hSw.c3; have q4 := hSw.c4; have q1 := hSw.c1; go_simp⟩) hHeld ?_
        try simp only [Act.put]
        try simp only [List.getElem_toArray]
        try simp only [List.getElem_cons_succ]
        try simp only [List.getElem_cons_zero]
        try simp only [List.setIfInBounds_toArray]
        try simp only [List.set_cons_succ, List.set_cons_zero]
        refine wpAnyH_take (i := 2) (v := .pointer (some ⟨a.J, 4, none⟩)) rfl (by kernel_rfl) (by kernel_rfl) (by kernel_rfl) (fun _ _ _ h => h) (Or.inl ⟨by kernel_rfl, fun w1 hSw => by clear hHeld; have q3 := hSw.c3; have q4 := hSw.c4; have q1 := hSw.c1; go_simp⟩) hHeld ?_
        try simp only [Act.put]
        try simp only [List.getElem_toArray]
        try simp only [List.getElem_cons_succ]
        try simp only [List.getElem_cons_zero]
        try simp only [List.setIfInBounds_toArray]
        try simp only [List.set_cons_succ, List.set_cons_zero]
        refine wpAnyH_take (i := 3) (v := .pointer (some ⟨a.A, 0, none⟩)) rfl (by kernel_rfl) (by kernel_rfl) (by kernel_rfl) (fun _ _ _ h => h) (Or.inl ⟨by kernel_rfl, fun w1 hSw => by clear hHeld; have q3 := hSw.c3; have q4 := hSw.c4; have q1 := hSw.c1; go_simp⟩) hHeld ?_
        try simp only [Act.put]
        try simp only [List.getElem_toArray]
        try simp only [List.getElem_cons_succ]
        try simp only [List.getElem_cons_zero]
        try simp only [List.setIfInBounds_toArray]
        try simp only [List.set_cons_succ, List.set_cons_zero]
        refine wpAnyH_take (i := 4) (v := .pointer (some ⟨A, 1, none⟩)) rfl (by kernel_rfl) (by kernel_rfl) (by kernel_rfl) (fun _ _ _ h => h) (Or.inl ⟨by kernel_rfl, fun w1 hSw => by clear hHeld; have q3 := hSw.c3; have q4 := hSw.c4; have q1 := hSw.c1; go_simp⟩) hHeld ?_
        try simp only [Act.put]
        try simp only [List.getElem_toArray]
        try simp only [List.getElem_cons_succ]
        try simp only [List.getElem_cons_zero]
        try simp only [List.setIfInBounds_toArray]
        try simp only [List.set_cons_succ, List.set_cons_zero]
        refine wpAnyH_take (i := 5) (v := .string j.tx) rfl (by kernel_rfl) (by kernel_rfl) (by kernel_rfl) (fun _ _ _ h => h) (Or.inl ⟨by kernel_rfl, fun w1 hSw => by clear hHeld; have q3 := hSw.c3; have q4 := hSw.c4; have q1 := hSw.c1; go_simp⟩) hHeld ?_
        try simp only [Act.put]
        try simp only [List.getElem_toArray]
        try simp only [List.getElem_cons_succ]
        try simp only [List.getElem_cons_zero]
        try simp only [List.setIfInBounds_toArray]
        try simp only [List.set_cons_succ, List.set_cons_zero]
        refine wpAnyH_ready (rs := [6]) (by kernel_rfl) (by simp) ?_
        refine AllReadyH.cons rfl (fun K hK => ?_) AllReadyH.nil
        go_simp
        refine (HPut.out _ (HS3.out.up (below_dr V3 1))).mono ?_
        rintro e V4 ⟨rfl, a4, hj4⟩
        have HJ4 := hide hj4
        have HB4 := hide ((HS3.out.up (below_dr V3 1)).put HJ.out hlA hj4)
        clear hj4
        refine hK.out _ _ (HB4.out) (fun hHeld => ?_)
        clear hK K
        try simp only [Act.put]
        try simp only [List.getElem_toArray]
        try simp only [List.getElem_cons_succ]
        try simp only [List.getElem_cons_zero]
        try simp only [List.setIfInBounds_toArray]
        try simp only [List.set_cons_succ, List.set_cons_zero]
        refine wpAnyH_done (by kernel_rfl) ?_ _
        go_wp2_with fail
        go_meet
        obtain ⟨b1, b2, b3⟩ := nx_put HJ.out HJ1.out HS3.out.bl (HJ4.out.pre (below_dr V3 1)) HO3.out
        exact hide ⟨a4, by rw [HNx.out]; exact b1, by rw [he1.out, hl1.out]; exact b2, b3⟩
      · have t1 : ((j.ak : Int) == 1) = false := by
          have : ¬ (j.ak : Int) = 1 := by omega
          simpa using this
        have t2 : ((j.ak : Int) == 2) = false := by
          have : ¬ (j.ak : Int) = 2 := by omega
          simpa using this
        have he1 : Hid (j.e1 = []) := hide (by unfold Jb.e1; rw [if_neg k1, if_neg k2])
        have HNx : Hid (j.nx = { j with m := j.mv }) := hide (by unfold Jb.nx Jb.lg' Jb.ar'; rw [if_neg k1, if_neg k2])
        clear k1 k2
        go_wp2_with fail
        go_meet
        exact hide ⟨a, by rw [HNx.out]; exact HJ1.out, by rw [he1.out]; exact World.ownsRow_nil _ _ _ _, fun b i _ e => by cases e⟩
  case rest =>
    clear HA1 x0 HJ1 HX1 HSz hAl hlA
    obtain ⟨a1, hj1, hr1, hn1⟩ := hcut.out.ex
    clear hcut
    obtain ⟨ad3, cap3, hu3⟩ := CH.own_slice hr1
    subst hu3
    have HJ1 := hide hj1
    have HR1 := hide hr1
    have HN1 := hide hn1
    have hc0 := hj1.jm.c0
    have hc3 := hj1.jm.c3_
    rw [hj1.J, hj1.M] at hc0
    rw [hj1.J, hj1.L] at hc3
    have HOv := hide (over_any hj1.jm.mb)
    rw [hj1.M] at HOv
    have e0 : j.nx.m.ov = j.mv.ov := rfl
    rw [e0] at HOv
    have hsz : w.heap.size ≤ wc.heap.size := hj1.kp.size
    have hl1 : j.e1.length ≤ 1 := by unfold Jb.e1; split <;> (try split) <;> simp
    have HTL := hide (fun (V : World) (hb : Below wc.heap.size wc V) => q_len1 (hj1.jm.below hb) HN.out 0)
    have HRs := hide (fun (V : World) (hb : Below wc.heap.size wc V) => result_any (hj1.jm.below hb).mb)
    rw [hj1.L] at HTL
    rw [hj1.M] at HRs
    have e1 : j.nx.lg.len = j.lg'.len := rfl
    have e2 : j.nx.m = j.mv := rfl
    rw [e1] at HTL
    rw [e2] at HRs
    clear hj1 hr1 hn1 e0 e1 e2
    cases hov : j.mv.ov with
    | false =>
      rw [hov] at HOv
      have hes : Hid (j.es = j.e1) := hide (by unfold Jb.es Jb.e2; rw [if_neg (by rw [hov]; decide)]; simp)
      clear hov
      go_wp2_with fail
      refine HOv.out.mono ?_
      rintro e w5 ⟨rfl, rfl⟩
      go_wp2_with fail
      go_ret
      exact ⟨_, a1, rfl, by rw [hes.out]; exact HR1.out, HJ1.out⟩
    | true =>
      rw [hov] at HOv
      have hes : Hid (ecs j.es = ecs j.e1 ++ [.int .i64 12, .int .i64 0, .int .i64 0, .int .i64 0, .int .i64 0, .int .i64 0, .int .i64 0, .int .i64 (j.lg'.len : Int), .int .i64 0, .int .i64 (Im.resC j.mv : Int), .int .u64 (Im.resB j.mv : Int), .string ⟨#[]⟩, .slice none 0 0] ∧ j.es.length = j.e1.length + 1) := hide (by unfold Jb.es Jb.e2; rw [if_pos hov, ecs_app]; exact ⟨rfl, by rw [List.length_append]; rfl⟩)
      clear hov
      generalize j.e1.length = N1 at *
      generalize j.lg'.len = LN at *
      generalize Im.resC j.mv = RC at *
      generalize Im.resB j.mv = RB at *
      go_wp2_with fail
      refine HOv.out.mono ?_
      rintro e w5 ⟨rfl, rfl⟩
      go_upto_region 11 with fail
      have HB0 : Hid (Below w5.heap.size w5 w5.drew) := hide ⟨rfl, rfl, rfl, Nat.le_refl _, fun _ _ => rfl⟩
      have HC0 : Hid (∀ V : World, Below w5.heap.size w5 V → V.cell? ⟨a.J, 0, none⟩ = some (.pointer (some ⟨a.M, 0, none⟩)) ∧ V.cell? ⟨a.J, 3, none⟩ = some (.pointer (some ⟨a.L, 0, none⟩))) := hide fun V hb => ⟨(hb.cell (p := ⟨a.J, 0, none⟩) (World.block_lt_of_cell? _ _ hc0)).trans hc0, (hb.cell (p := ⟨a.J, 3, none⟩) (World.block_lt_of_cell? _ _ hc3)).trans hc3⟩
      refine wp_region_held_drew (S := fun V => V.cell? ⟨a.J, 0, none⟩ = some (.pointer (some ⟨a.M, 0, none⟩)) ∧ V.cell? ⟨a.J, 3, none⟩ = some (.pointer (some ⟨a.L, 0, none⟩))) (by kernel_rfl) (HC0.out _ HB0.out) (fun hHeld => ?_)
      refine wpAnyH_take (i := 0) (v := .slice ad3 N1 cap3) rfl (by kernel_rfl) (by kernel_rfl) (by kernel_rfl) (fun _ _ _ h => h) (Or.inl ⟨by kernel_rfl, fun w1 hSw => by clear hHeld; have q0 := hSw.1; have q3 := hSw.2; go_simp⟩) hHeld ?_
      try simp only [Act.put]
      try simp only [List.getElem_toArray]
      try simp only [List.getElem_cons_succ]
      try simp only [List.getElem_cons_zero]
      try simp only [List.setIfInBounds_toArray]
      try simp only [List.set_cons_succ, List.set_cons_zero]
      refine wpAnyH_take (i := 1) (v := .pointer (some ⟨a.J, 0, none⟩)) rfl (by kernel_rfl) (by kernel_rfl) (by kernel_rfl) (fun _ _ _ h => h) (Or.inl ⟨by kernel_rfl, fun w1 hSw => by clear hHeld; have q0 := hSw.1; have q3 := hSw.2; go_simp⟩) hHeld ?_
      try simp only [Act.put]
      try simp only [List.getElem_toArray]
      try simp only [List.getElem_cons_succ]
      try simp only [List.getElem_cons_zero]
      try simp only [List.setIfInBounds_toArray]
      try simp only [List.set_cons_succ, List.set_cons_zero]
      refine wpAnyH_take (i := 2) (v := .pointer (some ⟨a.J, 0, none⟩)) rfl (by kernel_rfl) (by kernel_rfl) (by kernel_rfl) (fun _ _ _ h => h) (Or.inl ⟨by kernel_rfl, fun w1 hSw => by clear hHeld; have q0 := hSw.1; have q3 := hSw.2; go_simp⟩) hHeld ?_
      try simp only [Act.put]
      try simp only [List.getElem_toArray]
      try simp only [List.getElem_cons_succ]
      try simp only [List.getElem_cons_zero]
      try simp only [List.setIfInBounds_toArray]
      try simp only [List.set_cons_succ, List.set_cons_zero]
      refine wpAnyH_take (i := 3) (v := .pointer (some ⟨a.J, 3, none⟩)) rfl (by kernel_rfl) (by kernel_rfl) (by kernel_rfl) (fun _ _ _ h => h) (Or.inl ⟨by kernel_rfl, fun w1 hSw => by clear hHeld; have q0 := hSw.1; have q3 := hSw.2; go_simp⟩) hHeld ?_
      try simp only [Act.put]
      try simp only [List.getElem_toArray]
      try simp only [List.getElem_cons_succ]
      try simp only [List.getElem_cons_zero]
      try simp only [List.setIfInBounds_toArray]
      try simp only [List.set_cons_succ, List.set_cons_zero]
      refine wpAnyH_take (i := 4) (v := .pointer (some ⟨a.L, 0, none⟩)) rfl (by kernel_rfl) (by kernel_rfl) (by kernel_rfl) (fun _ _ _ h => h) (Or.inl ⟨by kernel_rfl, fun w1 hSw => by clear hHeld; have q0 := hSw.1; have q3 := hSw.2; go_simp⟩) hHeld ?_
      try simp only [Act.put]
      try simp only [List.getElem_toArray]
      try simp only [List.getElem_cons_succ]
      try simp only [List.getElem_cons_zero]
      try simp only [List.setIfInBounds_toArray]
      try simp only [List.set_cons_succ, List.set_cons_zero]
      refine wpAnyH_take (i := 6) (v := .pointer (some ⟨a.J, 0, none⟩)) rfl (by kernel_rfl) (by kernel_rfl) (by kernel_rfl) (fun _ _ _ h => h) (Or.inl ⟨by kernel_rfl, fun w1 hSw => by clear hHeld; have q0 := hSw.1; have q3 := hSw.2; go_simp⟩) hHeld ?_
      try simp only [Act.put]
      try simp only [List.getElem_toArray]
      try simp only [List.getElem_cons_succ]
      try simp only [List.getElem_cons_zero]
      try simp only [List.setIfInBounds_toArray]
      try simp only [List.set_cons_succ, List.set_cons_zero]
      refine wpAnyH_take (i := 7) (v := .pointer (some ⟨a.J, 0, none⟩)) rfl (by kernel_rfl) (by kernel_rfl) (by kernel_rfl) (fun _ _ _ h => h) (Or.inl ⟨by kernel_rfl, fun w1 hSw => by clear hHeld; have q0 := hSw.1; have q3 := hSw.2; go_simp⟩) hHeld ?_
      try simp only [Act.put]
      try simp only [List.getElem_toArray]
      try simp only [List.getElem_cons_succ]
      try simp only [List.getElem_cons_zero]
      try simp only [List.setIfInBounds_toArray]
      try simp only [List.set_cons_succ, List.set_cons_zero]
      refine wpAnyH_take (i := 8) (v := .pointer (some ⟨a.J, 0, none⟩)) rfl (by kernel_rfl) (by kernel_rfl) (by kernel_rfl) (fun _ _ _ h => h) (Or.inl ⟨by kernel_rfl, fun w1 hSw => by clear hHeld; have q0 := hSw.1; have q3 := hSw.2; go_simp⟩) hHeld ?_
      try simp only [Act.put]
      try simp only [List.getElem_toArray]
      try simp only [List.getElem_cons_succ]
      try simp only [List.getElem_cons_zero]
      try simp only [List.setIfInBounds_toArray]
      try simp only [List.set_cons_succ, List.set_cons_zero]
      refine wpAnyH_take (i := 9) (v := .pointer (some ⟨a.M, 0, none⟩)) rfl (by kernel_rfl) (by kernel_rfl) (by kernel_rfl) (fun _ _ _ h => h) (Or.inl ⟨by kernel_rfl, fun w1 hSw => by clear hHeld; have q0 := hSw.1; have q3 := hSw.2; go_simp⟩) hHeld ?_
      try simp only [Act.put]
      try simp only [List.getElem_toArray]
      try simp only [List.getElem_cons_succ]
      try simp only [List.getElem_cons_zero]
      try simp only [List.setIfInBounds_toArray]
      try simp only [List.set_cons_succ, List.set_cons_zero]
      refine wpAnyH_ready (rs := [5]) (by kernel_rfl) (by simp) ?_
      refine AllReadyH.cons rfl (fun K hK => ?_) AllReadyH.nil
      go_simp
      refine (HTL.out _ HB0.out).mono ?_
      rintro e V1 ⟨rfl, m1, hV1⟩
      have hbV : Below w5.drew.heap.size w5.drew V1 := by rw [hV1]; exact below_dr _ _
      have HB1 := hide (HB0.out.trans (hbV.mono HB0.out.size))
      have HS1 := hide (HC0.out V1 HB1.out)
      clear hV1 hbV m1
      refine hK.out _ _ (HS1.out) (fun hHeld => ?_)
      clear hK K
      try simp only [Act.put]
      try simp only [List.getElem_toArray]
      try simp only [List.getElem_cons_succ]
      try simp only [List.getElem_cons_zero]
      try simp only [List.setIfInBounds_toArray]
      try simp only [List.set_cons_succ, List.set_cons_zero]
      refine wpAnyH_ready (rs := [10]) (by kernel_rfl) (by simp) ?_
      refine AllReadyH.cons rfl (fun K hK => ?_) AllReadyH.nil
      go_simp
      refine (HRs.out _ HB1.out).mono ?_
      rintro e V2 ⟨rfl, hbV⟩
      have HB2 := hide (HB1.out.trans (hbV.mono HB1.out.size))
      have HS2 := hide (HC0.out V2 HB2.out)
      clear hbV
      refine hK.out _ _ (HS2.out) (fun hHeld => ?_)
      clear hK K
      try simp only [Act.put]
      try simp only [List.getElem_toArray]
      try simp only [List.getElem_cons_succ]
      try simp only [List.getElem_cons_zero]
      try simp only [List.setIfInBounds_toArray]
      try simp only [List.set_cons_succ, List.set_cons_zero]
      refine wpAnyH_take (i := 11) (v := .agg #[.int .i64 12, .int .i64 0, .int .i64 0, .int .i64 0, .int .i64 0, .int .i64 0, .int .i64 0, .int .i64 (LN : Int), .int .i64 0, .int .i64 (RC : Int), .int .u64 (RB : Int), .string ⟨#[]⟩, .slice none 0 0]) rfl (by kernel_rfl) (by kernel_rfl) (by kernel_rfl) (fun _ _ _ h => h) (Or.inl ⟨by kernel_rfl, fun w1 hSw => by clear hHeld; have q0 := hSw.1; have q3 := hSw.2; go_simp⟩) hHeld ?_
      try simp only [Act.put]
      try simp only [List.getElem_toArray]
      try simp only [List.getElem_cons_succ]
      try simp only [List.getElem_cons_zero]
      try simp only [List.setIfInBounds_toArray]
      try simp only [List.set_cons_succ, List.set_cons_zero]
      refine wpAnyH_ready (rs := [12]) (by kernel_rfl) (by simp) ?_
      refine AllReadyH.cons rfl (fun K hK => ?_) AllReadyH.nil
      go_simp
      have HB3 := hide (HB2.out.trans ((CH.below_alloc V2 (.cells #[.int .i64 12, .int .i64 0, .int .i64 0, .int .i64 0, .int .i64 0, .int .i64 0, .int .i64 0, .int .i64 (LN : Int), .int .i64 0, .int .i64 (RC : Int), .int .u64 (RB : Int), .string ⟨#[]⟩, .slice none 0 0] 98)).mono HB2.out.size))
      have HE3 := hide (heap_alloc_new V2 (.cells #[.int .i64 12, .int .i64 0, .int .i64 0, .int .i64 0, .int .i64 0, .int .i64 0, .int .i64 0, .int .i64 (LN : Int), .int .i64 0, .int .i64 (RC : Int), .int .u64 (RB : Int), .string ⟨#[]⟩, .slice none 0 0] 98))
      have HS3 := hide (HC0.out _ HB3.out)
      refine hK.out _ _ (HS3.out) (fun hHeld => ?_)
      clear hK K
      try simp only [Act.put]
      try simp only [List.getElem_toArray]
      try simp only [List.getElem_cons_succ]
      try simp only [List.getElem_cons_zero]
      try simp only [List.setIfInBounds_toArray]
      try simp only [List.set_cons_succ, List.set_cons_zero]
      refine wpAnyH_ready (rs := [13]) (by kernel_rfl) (by simp) ?_
      refine AllReadyH.cons rfl (fun K hK => ?_) AllReadyH.nil
      refine step_append_lies _ rfl (.tmp 61) (.tmp 73) 51 rfl w.heap.size 98 iE _ 13 128 Tryz.underlying51 hiE zE0 zE1 zE2 rfl (by decide) (.slice ad3 N1 cap3) N1 (ecs j.e1) rfl (CH.own_keep HR1.out (fun k hk => HB3.out.block k (HR1.out.lt k hk).2)) ⟨V2.heap.size, 0, none⟩ 1 1 [.int .i64 12, .int .i64 0, .int .i64 0, .int .i64 0, .int .i64 0, .int .i64 0, .int .i64 0, .int .i64 (LN : Int), .int .i64 0, .int .i64 (RC : Int), .int .u64 (RB : Int), .string ⟨#[]⟩, .slice none 0 0] rfl rfl (World.news_of_block HE3.out) (by simp [Value.oneCell']) (by decide) (by unfold maxLen; omega) (by omega) (Nat.le_trans hsz HB3.out.size) _ rfl ?_
      intro g4 cap4 V4 hown4 hgr4 _ hg4
      have HO4 := hide hown4
      have HJ4 := hide ((HJ1.out.low HB3.out).app (CH.own_keep HR1.out (fun k hk => HB3.out.block k (HR1.out.lt k hk).2)) hgr4 HN1.out)
      have HS4 : Hid (V4.cell? ⟨a.J, 0, none⟩ = some (.pointer (some ⟨a.M, 0, none⟩)) ∧ V4.cell? ⟨a.J, 3, none⟩ = some (.pointer (some ⟨a.L, 0, none⟩))) := hide (by have k0 := HJ4.out.jm.c0; have k3 := HJ4.out.jm.c3_; rw [HJ4.out.J, HJ4.out.M] at k0; rw [HJ4.out.J, HJ4.out.L] at k3; exact ⟨k0, k3⟩)
      clear hown4 hgr4
      refine hK.out _ _ (HS4.out) (fun hHeld => ?_)
      clear hK K
      try simp only [Act.put]
      try simp only [List.getElem_toArray]
      try simp only [List.getElem_cons_succ]
      try simp only [List.getElem_cons_zero]
      try simp only [List.setIfInBounds_toArray]
      try simp only [List.set_cons_succ, List.set_cons_zero]
      refine wpAnyH_take (i := 14) (v := .slice (some ⟨g4, 0, none⟩) (N1 + 1) cap4) rfl (by kernel_rfl) (by kernel_rfl) (by kernel_rfl) (fun _ _ _ h => h) (Or.inl ⟨by kernel_rfl, fun w1 hSw => by clear hHeld; have q0 := hSw.1; have q3 := hSw.2; go_simp⟩) hHeld ?_
      try simp only [Act.put]
      try simp only [List.getElem_toArray]
      try simp only [List.getElem_cons_succ]
      try simp only [List.getElem_cons_zero]
      try simp only [List.setIfInBounds_toArray]
      try simp only [List.set_cons_succ, List.set_cons_zero]
      refine wpAnyH_done (by kernel_rfl) ?_ _
      go_wp2_with fail
      go_ret
      exact ⟨_, a1, rfl, by rw [hes.out.1, hes.out.2]; exact HO4.out, HJ4.out⟩
end Go.Proofs.YtkfnedhllfdghaaGreatDoor.RN
end

section
namespace Go.Proofs.YtkfnedhllfdghaaGreatDoor.RN
open Go.RowKit Go.Shelf
set_option maxRecDepth 20000

def mcs (l : List W.Wr.Ms) : List Value := l.flatMap fun m => (W.msgC m).toList
theorem mcs_app (l m : List W.Wr.Ms) : mcs (l ++ m) = mcs l ++ mcs m := List.flatMap_append
theorem mcs_one (m : W.Wr.Ms) : mcs [m] = (W.msgC m).toList := by simp [mcs]
/-- a chunk as it is said -/
def Jb.cm (j : Jb) (p : Nat × ByteArray) : W.Wr.Ms := ⟨5, 0, 0, 0, j.ba, (p.1 : Int), 0, 0, 0, p.2, W.Wr.e0⟩
/-- a piece as it is said -/
def Jb.pm (j : Jb) (p : Nat × ByteArray) : W.Wr.Ms := ⟨6, 0, 0, j.no, j.ba, (p.1 : Int), 0, 0, 0, p.2, W.Wr.e0⟩
theorem infoMsg : (Tryz.prog.info? 67).map (fun i => (i.zero, i.size, i.bytes)) = some (some (.agg #[.int .i64 0, .int .i64 0, .int .i64 0, .int .i64 0, .int .i64 0, .int .i64 0, .int .i64 0, .int .i64 0, .int .u64 0, .string ByteArray.empty, .string ByteArray.empty]), 11, 104) := by kernel_rfl
theorem its_32 {s : CH.Sn} (h : s.ok) : s.its.length ≤ 32 := by
  rw [CH.Sn.its_len]
  have h1 := CH.Sn.we_hi s
  have h2 := h.l
  omega
theorem own_items {w : World} {base cap : Nat} {ad : Option Addr} {D : List (Nat × ByteArray)} {N : Nat} (hN : D.length = N) (h : w.ownsRow base 159 2 (.slice ad N cap) N (CH.ics D)) (k : Nat) (hk : k < N) :
    ∃ g p, D[k]? = some p ∧ ad = some ⟨g, 0, none⟩ ∧ g < w.heap.size ∧ w.cell? ⟨g, k * 2, none⟩ = some (.int .i64 (p.1 : Int)) ∧ w.cell? ⟨g, k * 2 + 1, none⟩ = some (.string p.2) := by
  subst hN
  obtain ⟨g, cap', cur, e, _, hg, _⟩ := CH.own_form h (by omega)
  injection e with e _ _
  subst e
  have h1 := (CH.ics_get D k hk).1
  have h2 := (CH.ics_get D k hk).2
  have k1 := h.cells (g := g) rfl _ _ h1
  have k2 := h.cells (g := g) rfl _ _ h2
  rw [Addr.add_lit, Nat.zero_add] at k1 k2
  exact ⟨g, D[k], List.getElem?_eq_getElem hk, rfl, lt_of_block hg, k1, k2⟩
/-- what a round reads: the job's number and badge, the item -/
structure Dx (a : JA) (jno jba : Int) (X dn : Nat) (dt : ByteArray) (V : World) : Prop where
  c1 : V.cell? ⟨a.J, 1, none⟩ = some (.int .i64 jno)
  c2 : V.cell? ⟨a.J, 2, none⟩ = some (.int .i64 jba)
  x0 : V.cell? ⟨X, 0, none⟩ = some (.int .i64 (dn : Int))
  x1 : V.cell? ⟨X, 1, none⟩ = some (.string dt)
theorem Dx.up {a : JA} {jno jba : Int} {X dn : Nat} {dt : ByteArray} {V V' : World} (h : Dx a jno jba X dn dt V) (hb : Below V.heap.size V V') : Dx a jno jba X dn dt V' :=
  ⟨(hb.cell (p := ⟨a.J, 1, none⟩) (World.block_lt_of_cell? _ _ h.c1)).trans h.c1, (hb.cell (p := ⟨a.J, 2, none⟩) (World.block_lt_of_cell? _ _ h.c2)).trans h.c2, (hb.cell (p := ⟨X, 0, none⟩) (World.block_lt_of_cell? _ _ h.x0)).trans h.x0, (hb.cell (p := ⟨X, 1, none⟩) (World.block_lt_of_cell? _ _ h.x1)).trans h.x1⟩
theorem Dx.row {a : JA} {jno jba : Int} {X dn : Nat} {dt : ByteArray} {V V' : World} {r : Option Nat} (h : Dx a jno jba X dn dt V) (hg : V.grownBy V' r) (h1 : some a.J ≠ r) (h2 : some X ≠ r) : Dx a jno jba X dn dt V' :=
  ⟨hg.cell h.c1 h1, hg.cell h.c2 h1, hg.cell h.x0 h2, hg.cell h.x1 h2⟩
theorem own_weak {w : World} {base base' n sz : Nat} {e : TypeId} {v : Value} {xs : List Value} (h : w.ownsRow base e sz v n xs) (hb : base' ≤ base) : w.ownsRow base' e sz v n xs := by
  refine ⟨h.1, ?_⟩
  rcases h.2 with h1 | ⟨g, cap, cur, h1, h2, h3⟩
  · exact .inl h1
  · exact .inr ⟨g, cap, cur, h1, Nat.le_trans hb h2, h3⟩
set_option maxHeartbeats 8000000 in
theorem dueC_any {w : World} {a : JA} {j : Jb} (h : Jm w a j) (hk : j.ok) :
    Calls Tryz.prog 43 #[.pointer (some ⟨a.J, 0, none⟩)] w fun e w' => ∃ v, e = .returned v ∧ w'.ownsRow w.heap.size 67 11 v j.lg.its.length (mcs (j.lg.its.map j.cm)) ∧ Js w a j w' a { j with lg := j.lg.due } := by
  obtain ⟨iM, hiM, zM0, zM1, zM2⟩ := CH.info_parts infoMsg
  have HDu := hide (jdue1 h hk.lg)
  have c3 := h.c3_
  have h32 := its_32 hk.lg
  clear h hk
  go_enter Tryz.func43, Tryz.ntmps43
  go_wp2_with fail
  refine HDu.out.mono ?_
  rintro e w2 ⟨v, rfl, hv, hj⟩
  obtain ⟨adv, capv, hv1⟩ := CH.own_slice hv
  subst hv1
  have HJ := hide hj
  have hsz2 : w.heap.size ≤ w2.heap.size := hj.kp.size
  have c1 : w2.cell? ⟨a.J, 1, none⟩ = some (.int .i64 j.no) := hj.jm.c1_
  have c2 : w2.cell? ⟨a.J, 2, none⟩ = some (.int .i64 j.ba) := hj.jm.c2_
  have hJl : a.J < w2.heap.size := lt_of_block hj.jm.jb
  have HF : Hid (∀ p, j.cm p = j.cm p) := hide fun _ => rfl
  obtain ⟨F, hF⟩ : ∃ F, F = j.cm := ⟨_, rfl⟩
  have HFq := hide hF
  have HFm : Hid (∀ p : Nat × ByteArray, (W.msgC (F p)).toList = [.int .i64 5, .int .i64 0, .int .i64 0, .int .i64 0, .int .i64 j.ba, .int .i64 (p.1 : Int), .int .i64 0, .int .i64 0, .int .u64 0, .string p.2, .string ⟨#[]⟩]) := hide fun p => by rw [hF]; rfl
  generalize j.no = jno at c1 HFm
  generalize j.ba = jba at c2 HFm
  obtain ⟨D, hD⟩ : ∃ D, j.lg.its = D := ⟨_, rfl⟩
  have HDq := hide hD
  obtain ⟨N, hN⟩ : ∃ N, D.length = N := ⟨_, rfl⟩
  rw [hD] at hv h32 ⊢
  rw [hN] at hv
  have HI2 := hide (fun k hk => own_items hN hv k hk)
  have HNn := hide hN
  rw [hN] at h32
  rw [hN]
  clear hv hj hF HF HDu hD c3
  clear hN
  go_wp2_with fail
  go_loopw [3, 5, 12] (fun u _ c wr => ∃ i : Nat, c = .int .i64 (i : Int) ∧ i ≤ N ∧ Hid (wr.ownsRow w2.heap.size 67 11 u i (mcs ((D.take i).map F))) ∧ Hid (Below w2.heap.size w2 wr)) (fun _ _ c _ => N - (intOf c).toNat)
  case atStart => exact ⟨0, rfl, Nat.zero_le _, World.ownsRow_nil _ _ _ _, hide (Below.refl _ _)⟩
  case round =>
    obtain ⟨i, rfl, hi, HO, HB⟩ := hrel
    obtain ⟨adu, capu, hu⟩ := CH.own_slice HO.out
    subst hu
    by_cases hil : i < N
    · obtain ⟨g, p, hp, hg, hgl, g1, g2⟩ := HI2.out i hil
      subst hg
      have HMs : Hid (mcs ((D.take (i + 1)).map F) = mcs ((D.take i).map F) ++ (W.msgC (F p)).toList) := hide (by
        rw [List.take_add_one, List.map_append, mcs_app, hp]
        simp only [Option.toList_some, List.map_cons, List.map_nil, mcs_one])
      rw [HFm.out] at HMs
      clear hp
      obtain ⟨dn, dt⟩ := p
      dsimp only at HMs g1 g2
      have k1 := (HB.out.cell (p := ⟨g, i * 2, none⟩) hgl).trans g1
      have k2 := (HB.out.cell (p := ⟨g, i * 2 + 1, none⟩) hgl).trans g2
      have hgr : g < wr.heap.size := Nat.lt_of_lt_of_le hgl HB.out.size
      have hsw : w2.heap.size ≤ wr.heap.size := HB.out.size
      have HrJ : Hid ((Value.slice adu i capu).ownBlock ≠ some a.J) := hide fun e => by have := (HO.out.lt _ e).1; omega
      have HrX : Hid ((Value.slice adu i capu).ownBlock ≠ some wr.heap.size) := hide fun e => by have := (HO.out.lt _ e).2; omega
      obtain ⟨X, hX⟩ : ∃ X, wr.heap.size = X := ⟨_, rfl⟩
      clear g1 g2
      go_upto_region 5 with fail
      clear k1 k2
      obtain ⟨V0, hV0⟩ : ∃ V0, wr.alloc (.cells #[.int .i64 (dn : Int), .string dt] 159) = V0 := ⟨_, rfl⟩
      have HBw : Hid (Below wr.heap.size wr V0.drew) := hide (by rw [← hV0]; exact CH.below_drew (CH.below_alloc wr _))
      have HBv : Hid (Below w2.heap.size w2 V0.drew) := hide (HB.out.trans (HBw.out.mono HB.out.size))
      have HOv := hide (CH.own_below HO.out HBw.out)
      have HD0 : Hid (Dx a jno jba X dn dt V0.drew) := by
        have hx := heap_alloc_new wr (.cells #[.int .i64 (dn : Int), .string dt] 159)
        rw [hX, hV0] at hx
        exact ⟨(HBv.out.cell (p := ⟨a.J, 1, none⟩) hJl).trans c1, (HBv.out.cell (p := ⟨a.J, 2, none⟩) hJl).trans c2, cell_of (w := V0.drew) hx rfl, cell_of (w := V0.drew) hx rfl⟩
      rw [hX] at HrX
      try rw [hX]
      rw [hV0]
      clear hV0 hX HBw HB
      refine wp_region_held_drew (S := fun V => Dx a jno jba X dn dt V) (by kernel_rfl) (HD0.out) (fun hHeld => ?_)
      refine wpAnyH_take (i := 0) (v := .slice adu i capu) rfl (by kernel_rfl) (by kernel_rfl) (by kernel_rfl) (fun _ _ _ h => h) (Or.inl ⟨by kernel_rfl, fun w1 hSw => by clear hHeld; have q1 := hSw.c1; have q2 := hSw.c2; have q3 := hSw.x0; have q4 := hSw.x1; go_simp⟩) hHeld ?_
      try simp only [Act.put]
      try simp only [List.getElem_toArray]
      try simp only [List.getElem_cons_succ]
      try simp only [List.getElem_cons_zero]
      try simp only [List.setIfInBounds_toArray]
      try simp only [List.set_cons_succ, List.set_cons_zero]
      refine wpAnyH_take (i := 1) (v := .pointer (some ⟨a.J, 0, none⟩)) rfl (by kernel_rfl) (by kernel_rfl) (by kernel_rfl) (fun _ _ _ h => h) (Or.inl ⟨by kernel_rfl, fun w1 hSw => by clear hHeld; have q1 := hSw.c1; have q2 := hSw.c2; have q3 := hSw.x0; have q4 := hSw.x1; go_simp⟩) hHeld ?_
      try simp only [Act.put]
      try simp only [List.getElem_toArray]
      try simp only [List.getElem_cons_succ]
      try simp only [List.getElem_cons_zero]
      try simp only [List.setIfInBounds_toArray]
      try simp only [List.set_cons_succ, List.set_cons_zero]
      refine wpAnyH_take (i := 2) (v := .pointer (some ⟨a.J, 0, none⟩)) rfl (by kernel_rfl) (by kernel_rfl) (by kernel_rfl) (fun _ _ _ h => h) (Or.inl ⟨by kernel_rfl, fun w1 hSw => by clear hHeld; have q1 := hSw.c1; have q2 := hSw.c2; have q3 := hSw.x0; have q4 := hSw.x1; go_simp⟩) hHeld ?_
      try simp only [Act.put]
      try simp only [List.getElem_toArray]
      try simp only [List.getElem_cons_succ]
      try simp only [List.getElem_cons_zero]
      try simp only [List.setIfInBounds_toArray]
      try simp only [List.set_cons_succ, List.set_cons_zero]
      refine wpAnyH_take (i := 3) (v := .pointer (some ⟨a.J, 2, none⟩)) rfl (by kernel_rfl) (by kernel_rfl) (by kernel_rfl) (fun _ _ _ h => h) (Or.inl ⟨by kernel_rfl, fun w1 hSw => by clear hHeld; have q1 := hSw.c1; have q2 := hSw.c2; have q3 := hSw.x0; have q4 := hSw.x1; go_simp⟩) hHeld ?_
      try simp only [Act.put]
      try simp only [List.getElem_toArray]
      try simp only [List.getElem_cons_succ]
      try simp only [List.getElem_cons_zero]
      try simp only [List.setIfInBounds_toArray]
      try simp only [List.set_cons_succ, List.set_cons_zero]
      refine wpAnyH_take (i := 4) (v := .int .i64 jba) rfl (by kernel_rfl) (by kernel_rfl) (by kernel_rfl) (fun _ _ _ h => h) (Or.inl ⟨by kernel_rfl, fun w1 hSw => by clear hHeld; have q1 := hSw.c1; have q2 := hSw.c2; have q3 := hSw.x0; have q4 := hSw.x1; go_simp⟩) hHeld ?_
      try simp only [Act.put]
      try simp only [List.getElem_toArray]
      try simp only [List.getElem_cons_succ]
      try simp only [List.getElem_cons_zero]
      try simp only [List.setIfInBounds_toArray]
      try simp only [List.set_cons_succ, List.set_cons_zero]
      refine wpAnyH_take (i := 5) (v := .pointer (some ⟨X, 0, none⟩)) rfl (by kernel_rfl) (by kernel_rfl) (by kernel_rfl) (fun _ _ _ h => h) (Or.inl ⟨by kernel_rfl, fun w1 hSw => by clear hHeld; have q1 := hSw.c1; have q2 := hSw.c2; have q3 := hSw.x0; have q4 := hSw.x1; go_simp⟩) hHeld ?_
      try simp only [Act.put]
      try simp only [List.getElem_toArray]
      try simp only [List.getElem_cons_succ]
      try simp only [List.getElem_cons_zero]
      try simp only [List.setIfInBounds_toArray]
      try simp only [List.set_cons_succ, List.set_cons_zero]
      refine wpAnyH_take (i := 6) (v := .int .i64 (dn : Int)) rfl (by kernel_rfl) (by kernel_rfl) (by kernel_rfl) (fun _ _ _ h => h) (Or.inl ⟨by kernel_rfl, fun w1 hSw => by clear hHeld; have q1 := hSw.c1; have q2 := hSw.c2; have q3 := hSw.x0; have q4 := hSw.x1; go_simp⟩) hHeld ?_
      try simp only [Act.put]
      try simp only [List.getElem_toArray]
      try simp only [List.getElem_cons_succ]
      try simp only [List.getElem_cons_zero]
      try simp only [List.setIfInBounds_toArray]
      try simp only [List.set_cons_succ, List.set_cons_zero]
      refine wpAnyH_take (i := 7) (v := .pointer (some ⟨X, 1, none⟩)) rfl (by kernel_rfl) (by kernel_rfl) (by kernel_rfl) (fun _ _ _ h => h) (Or.inl ⟨by kernel_rfl, fun w1 hSw => by clear hHeld; have q1 := hSw.c1; have q2 := hSw.c2; have q3 := hSw.x0; have q4 := hSw.x1; go_simp⟩) hHeld ?_
      try simp only [Act.put]
      try simp only [List.getElem_toArray]
      try simp only [List.getElem_cons_succ]
      try simp only [List.getElem_cons_zero]
      try simp only [List.setIfInBounds_toArray]
      try simp only [List.set_cons_succ, List.set_cons_zero]
      refine wpAnyH_take (i := 8) (v := .string dt) rfl (by kernel_rfl) (by kernel_rfl) (by kernel_rfl) (fun _ _ _ h => h) (Or.inl ⟨by kernel_rfl, fun w1 hSw => by clear hHeld; have q1 := hSw.c1; have q2 := hSw.c2; have q3 := hSw.x0; have q4 := hSw.x1; go_simp⟩) hHeld ?_
      try simp only [Act.put]
      try simp only [List.getElem_toArray]
      try simp only [List.getElem_cons_succ]
      try simp only [List.getElem_cons_zero]
      try simp only [List.setIfInBounds_toArray]
      try simp only [List.set_cons_succ, List.set_cons_zero]
      refine wpAnyH_take (i := 9) (v := .agg #[.int .i64 5, .int .i64 0, .int .i64 0, .int .i64 0, .int .i64 jba, .int .i64 (dn : Int), .int .i64 0, .int .i64 0, .int .u64 0, .string dt, .string ⟨#[]⟩]) rfl (by kernel_rfl) (by kernel_rfl) (by kernel_rfl) (fun _ _ _ h => h) (Or.inl ⟨by kernel_rfl, fun w1 hSw => by clear hHeld; have q1 := hSw.c1; have q2 := hSw.c2; have q3 := hSw.x0; have q4 := hSw.x1; go_simp⟩) hHeld ?_
      try simp only [Act.put]
      try simp only [List.getElem_toArray]
      try simp only [List.getElem_cons_succ]
      try simp only [List.getElem_cons_zero]
      try simp only [List.setIfInBounds_toArray]
      try simp only [List.set_cons_succ, List.set_cons_zero]
      refine wpAnyH_ready (rs := [10]) (by kernel_rfl) (by simp) ?_
      refine AllReadyH.cons rfl (fun K hK => ?_) AllReadyH.nil
      go_simp
      have HS2 := hide (hHeld.up (CH.below_alloc V0.drew (.cells #[.int .i64 5, .int .i64 0, .int .i64 0, .int .i64 0, .int .i64 jba, .int .i64 (dn : Int), .int .i64 0, .int .i64 0, .int .u64 0, .string dt, .string ⟨#[]⟩] 67)))
      have HE2 := hide (heap_alloc_new V0.drew (.cells #[.int .i64 5, .int .i64 0, .int .i64 0, .int .i64 0, .int .i64 jba, .int .i64 (dn : Int), .int .i64 0, .int .i64 0, .int .u64 0, .string dt, .string ⟨#[]⟩] 67))
      have HB2 := hide (HBv.out.trans ((CH.below_alloc V0.drew (.cells #[.int .i64 5, .int .i64 0, .int .i64 0, .int .i64 0, .int .i64 jba, .int .i64 (dn : Int), .int .i64 0, .int .i64 0, .int .u64 0, .string dt, .string ⟨#[]⟩] 67)).mono HBv.out.size))
      have HO2 := hide (CH.own_below HOv.out (CH.below_alloc V0.drew (.cells #[.int .i64 5, .int .i64 0, .int .i64 0, .int .i64 0, .int .i64 jba, .int .i64 (dn : Int), .int .i64 0, .int .i64 0, .int .u64 0, .string dt, .string ⟨#[]⟩] 67)))
      refine hK.out _ _ (HS2.out) (fun hHeld => ?_)
      clear hK K
      try simp only [Act.put]
      try simp only [List.getElem_toArray]
      try simp only [List.getElem_cons_succ]
      try simp only [List.getElem_cons_zero]
      try simp only [List.setIfInBounds_toArray]
      try simp only [List.set_cons_succ, List.set_cons_zero]
      refine wpAnyH_ready (rs := [11]) (by kernel_rfl) (by simp) ?_
      refine AllReadyH.cons rfl (fun K hK => ?_) AllReadyH.nil
      refine step_append_lies _ rfl (.tmp 16) (.tmp 26) 114 rfl w2.heap.size 67 iM _ 11 104 Tryz.underlying114 hiM zM0 zM1 zM2 rfl (by decide) (.slice adu i capu) i (mcs ((D.take i).map F)) rfl HO2.out ⟨V0.drew.heap.size, 0, none⟩ 1 1 [.int .i64 5, .int .i64 0, .int .i64 0, .int .i64 0, .int .i64 jba, .int .i64 (dn : Int), .int .i64 0, .int .i64 0, .int .u64 0, .string dt, .string ⟨#[]⟩] rfl rfl (World.news_of_block HE2.out) (by simp [Value.oneCell']) (by decide) (by unfold maxLen; omega) (by omega) (HB2.out.size) _ rfl ?_
      intro g4 cap4 V4 hown4 hgr4 _ hg4
      have HO4 := hide hown4
      have HB4 := hide (CH.grown_of HB2.out hgr4 HB2.out.size (fun k hk => (HO2.out.lt k hk).1))
      have HS4 := hide (HS2.out.row hgr4 (fun e => HrJ.out e.symm) (fun e => HrX.out e.symm))
      clear hown4 hgr4
      refine hK.out _ _ (HS4.out) (fun hHeld => ?_)
      clear hK K
      try simp only [Act.put]
      try simp only [List.getElem_toArray]
      try simp only [List.getElem_cons_succ]
      try simp only [List.getElem_cons_zero]
      try simp only [List.setIfInBounds_toArray]
      try simp only [List.set_cons_succ, List.set_cons_zero]
      refine wpAnyH_take (i := 12) (v := .slice (some ⟨g4, 0, none⟩) (i + 1) cap4) rfl (by kernel_rfl) (by kernel_rfl) (by kernel_rfl) (fun _ _ _ h => h) (Or.inl ⟨by kernel_rfl, fun w1 hSw => by clear hHeld; have q1 := hSw.c1; have q2 := hSw.c2; have q3 := hSw.x0; have q4 := hSw.x1; go_simp⟩) hHeld ?_
      try simp only [Act.put]
      try simp only [List.getElem_toArray]
      try simp only [List.getElem_cons_succ]
      try simp only [List.getElem_cons_zero]
      try simp only [List.setIfInBounds_toArray]
      try simp only [List.set_cons_succ, List.set_cons_zero]
      refine wpAnyH_done (by kernel_rfl) ?_ _
      go_wp2_with fail
      go_roundw
      case rel => exact ⟨i + 1, by go_num, by omega, by rw [HMs.out]; exact HO4, HB4⟩
      case measure => simp only [intOf]; omega
    · obtain rfl : i = N := by omega
      have hii : ¬ ((i : Int) < (i : Int)) := by omega
      go_wp2_with fail
      go_ret
      refine ⟨_, rfl, ?_, HJ.out.low HB.out⟩
      rw [HDq.out, ← HFq.out, HNn.out]
      have h9 := HO.out
      rw [← HNn.out, List.take_length, HNn.out] at h9
      exact own_weak h9 hsz2
set_option maxHeartbeats 8000000 in
theorem dueP_any {w : World} {a : JA} {j : Jb} (h : Jm w a j) (hk : j.ok) :
    Calls Tryz.prog 45 #[.pointer (some ⟨a.J, 0, none⟩)] w fun e w' => ∃ v, e = .returned v ∧ w'.ownsRow w.heap.size 67 11 v j.ar.its.length (mcs (j.ar.its.map j.pm)) ∧ Js w a j w' a { j with ar := j.ar.due } := by
  obtain ⟨iM, hiM, zM0, zM1, zM2⟩ := CH.info_parts infoMsg
  have HDu := hide (jdue2 h hk.ar)
  have c3 := h.c4_
  have h32 := its_32 hk.ar
  clear h hk
  go_enter Tryz.func45, Tryz.ntmps45
  go_wp2_with fail
  refine HDu.out.mono ?_
  rintro e w2 ⟨v, rfl, hv, hj⟩
  obtain ⟨adv, capv, hv1⟩ := CH.own_slice hv
  subst hv1
  have HJ := hide hj
  have hsz2 : w.heap.size ≤ w2.heap.size := hj.kp.size
  have c1 : w2.cell? ⟨a.J, 1, none⟩ = some (.int .i64 j.no) := hj.jm.c1_
  have c2 : w2.cell? ⟨a.J, 2, none⟩ = some (.int .i64 j.ba) := hj.jm.c2_
  have hJl : a.J < w2.heap.size := lt_of_block hj.jm.jb
  have HF : Hid (∀ p, j.pm p = j.pm p) := hide fun _ => rfl
  obtain ⟨F, hF⟩ : ∃ F, F = j.pm := ⟨_, rfl⟩
  have HFq := hide hF
  have HFm : Hid (∀ p : Nat × ByteArray, (W.msgC (F p)).toList = [.int .i64 6, .int .i64 0, .int .i64 0, .int .i64 j.no, .int .i64 j.ba, .int .i64 (p.1 : Int), .int .i64 0, .int .i64 0, .int .u64 0, .string p.2, .string ⟨#[]⟩]) := hide fun p => by rw [hF]; rfl
  generalize j.no = jno at c1 HFm
  generalize j.ba = jba at c2 HFm
  obtain ⟨D, hD⟩ : ∃ D, j.ar.its = D := ⟨_, rfl⟩
  have HDq := hide hD
  obtain ⟨N, hN⟩ : ∃ N, D.length = N := ⟨_, rfl⟩
  rw [hD] at hv h32 ⊢
  rw [hN] at hv
  have HI2 := hide (fun k hk => own_items hN hv k hk)
  have HNn := hide hN
  rw [hN] at h32
  rw [hN]
  clear hv hj hF HF HDu hD c3
  clear hN
  go_wp2_with fail
  go_loopw [3, 5, 12] (fun u _ c wr => ∃ i : Nat, c = .int .i64 (i : Int) ∧ i ≤ N ∧ Hid (wr.ownsRow w2.heap.size 67 11 u i (mcs ((D.take i).map F))) ∧ Hid (Below w2.heap.size w2 wr)) (fun _ _ c _ => N - (intOf c).toNat)
  case atStart => exact ⟨0, rfl, Nat.zero_le _, World.ownsRow_nil _ _ _ _, hide (Below.refl _ _)⟩
  case round =>
    obtain ⟨i, rfl, hi, HO, HB⟩ := hrel
    obtain ⟨adu, capu, hu⟩ := CH.own_slice HO.out
    subst hu
    by_cases hil : i < N
    · obtain ⟨g, p, hp, hg, hgl, g1, g2⟩ := HI2.out i hil
      subst hg
      have HMs : Hid (mcs ((D.take (i + 1)).map F) = mcs ((D.take i).map F) ++ (W.msgC (F p)).toList) := hide (by
        rw [List.take_add_one, List.map_append, mcs_app, hp]
        simp only [Option.toList_some, List.map_cons, List.map_nil, mcs_one])
      rw [HFm.out] at HMs
      clear hp
      obtain ⟨dn, dt⟩ := p
      dsimp only at HMs g1 g2
      have k1 := (HB.out.cell (p := ⟨g, i * 2, none⟩) hgl).trans g1
      have k2 := (HB.out.cell (p := ⟨g, i * 2 + 1, none⟩) hgl).trans g2
      have hgr : g < wr.heap.size := Nat.lt_of_lt_of_le hgl HB.out.size
      have hsw : w2.heap.size ≤ wr.heap.size := HB.out.size
      have HrJ : Hid ((Value.slice adu i capu).ownBlock ≠ some a.J) := hide fun e => by have := (HO.out.lt _ e).1; omega
      have HrX : Hid ((Value.slice adu i capu).ownBlock ≠ some wr.heap.size) := hide fun e => by have := (HO.out.lt _ e).2; omega
      obtain ⟨X, hX⟩ : ∃ X, wr.heap.size = X := ⟨_, rfl⟩
      clear g1 g2
      go_upto_region 5 with fail
      clear k1 k2
      obtain ⟨V0, hV0⟩ : ∃ V0, wr.alloc (.cells #[.int .i64 (dn : Int), .string dt] 159) = V0 := ⟨_, rfl⟩
      have HBw : Hid (Below wr.heap.size wr V0.drew) := hide (by rw [← hV0]; exact CH.below_drew (CH.below_alloc wr _))
      have HBv : Hid (Below w2.heap.size w2 V0.drew) := hide (HB.out.trans (HBw.out.mono HB.out.size))
      have HOv := hide (CH.own_below HO.out HBw.out)
      have HD0 : Hid (Dx a jno jba X dn dt V0.drew) := by
        have hx := heap_alloc_new wr (.cells #[.int .i64 (dn : Int), .string dt] 159)
        rw [hX, hV0] at hx
        exact ⟨(HBv.out.cell (p := ⟨a.J, 1, none⟩) hJl).trans c1, (HBv.out.cell (p := ⟨a.J, 2, none⟩) hJl).trans c2, cell_of (w := V0.drew) hx rfl, cell_of (w := V0.drew) hx rfl⟩
      rw [hX] at HrX
      try rw [hX]
      rw [hV0]
      clear hV0 hX HBw HB
      refine wp_region_held_drew (S := fun V => Dx a jno jba X dn dt V) (by kernel_rfl) (HD0.out) (fun hHeld => ?_)
      refine wpAnyH_take (i := 0) (v := .slice adu i capu) rfl (by kernel_rfl) (by kernel_rfl) (by kernel_rfl) (fun _ _ _ h => h) (Or.inl ⟨by kernel_rfl, fun w1 hSw => by clear hHeld; have q1 := hSw.c1; have q2 := hSw.c2; have q3 := hSw.x0; have q4 := hSw.x1; go_simp⟩) hHeld ?_
      try simp only [Act.put]
      try simp only [List.getElem_toArray]
      try simp only [List.getElem_cons_succ]
      try simp only [List.getElem_cons_zero]
      try simp only [List.setIfInBounds_toArray]
      try simp only [List.set_cons_succ, List.set_cons_zero]
      refine wpAnyH_take (i := 1) (v := .pointer (some ⟨a.J, 0, none⟩)) rfl (by kernel_rfl) (by kernel_rfl) (by kernel_rfl) (fun _ _ _ h => h) (Or.inl ⟨by kernel_rfl, fun w1 hSw => by clear hHeld; have q1 := hSw.c1; have q2 := hSw.c2; have q3 := hSw.x0; have q4 := hSw.x1; go_simp⟩) hHeld ?_
      try simp only [Act.put]
      try simp only [List.getElem_toArray]
      try simp only [List.getElem_cons_succ]
      try simp only [List.getElem_cons_zero]
      try simp only [List.setIfInBounds_toArray]
      try simp only [List.set_cons_succ, List.set_cons_zero]
      refine wpAnyH_take (i := 2) (v := .pointer (some ⟨a.J, 0, none⟩)) rfl (by kernel_rfl) (by kernel_rfl) (by kernel_rfl) (fun _ _ _ h => h) (Or.inl ⟨by kernel_rfl, fun w1 hSw => by clear hHeld; have q1 := hSw.c1; have q2 := hSw.c2; have q3 := hSw.x0; have q4 := hSw.x1; go_simp⟩) hHeld ?_
      try simp only [Act.put]
      try simp only [List.getElem_toArray]
      try simp only [List.getElem_cons_succ]
      try simp only [List.getElem_cons_zero]
      try simp only [List.setIfInBounds_toArray]
      try simp only [List.set_cons_succ, List.set_cons_zero]
      refine wpAnyH_take (i := 3) (v := .pointer (some ⟨a.J, 1, none⟩)) rfl (by kernel_rfl) (by kernel_rfl) (by kernel_rfl) (fun _ _ _ h => h) (Or.inl ⟨by kernel_rfl, fun w1 hSw => by clear hHeld; have q1 := hSw.c1; have q2 := hSw.c2; have q3 := hSw.x0; have q4 := hSw.x1; go_simp⟩) hHeld ?_
      try simp only [Act.put]
      try simp only [List.getElem_toArray]
      try simp only [List.getElem_cons_succ]
      try simp only [List.getElem_cons_zero]
      try simp only [List.setIfInBounds_toArray]
      try simp only [List.set_cons_succ, List.set_cons_zero]
      refine wpAnyH_take (i := 4) (v := .int .i64 jno) rfl (by kernel_rfl) (by kernel_rfl) (by kernel_rfl) (fun _ _ _ h => h) (Or.inl ⟨by kernel_rfl, fun w1 hSw => by clear hHeld; have q1 := hSw.c1; have q2 := hSw.c2; have q3 := hSw.x0; have q4 := hSw.x1; go_simp⟩) hHeld ?_
      try simp only [Act.put]
      try simp only [List.getElem_toArray]
      try simp only [List.getElem_cons_succ]
      try simp only [List.getElem_cons_zero]
      try simp only [List.setIfInBounds_toArray]
      try simp only [List.set_cons_succ, List.set_cons_zero]
      refine wpAnyH_take (i := 5) (v := .pointer (some ⟨a.J, 0, none⟩)) rfl (by kernel_rfl) (by kernel_rfl) (by kernel_rfl) (fun _ _ _ h => h) (Or.inl ⟨by kernel_rfl, fun w1 hSw => by clear hHeld; have q1 := hSw.c1; have q2 := hSw.c2; have q3 := hSw.x0; have q4 := hSw.x1; go_simp⟩) hHeld ?_
      try simp only [Act.put]
      try simp only [List.getElem_toArray]
      try simp only [List.getElem_cons_succ]
      try simp only [List.getElem_cons_zero]
      try simp only [List.setIfInBounds_toArray]
      try simp only [List.set_cons_succ, List.set_cons_zero]
      refine wpAnyH_take (i := 6) (v := .pointer (some ⟨a.J, 0, none⟩)) rfl (by kernel_rfl) (by kernel_rfl) (by kernel_rfl) (fun _ _ _ h => h) (Or.inl ⟨by kernel_rfl, fun w1 hSw => by clear hHeld; have q1 := hSw.c1; have q2 := hSw.c2; have q3 := hSw.x0; have q4 := hSw.x1; go_simp⟩) hHeld ?_
      try simp only [Act.put]
      try simp only [List.getElem_toArray]
      try simp only [List.getElem_cons_succ]
      try simp only [List.getElem_cons_zero]
      try simp only [List.setIfInBounds_toArray]
      try simp only [List.set_cons_succ, List.set_cons_zero]
      refine wpAnyH_take (i := 7) (v := .pointer (some ⟨a.J, 2, none⟩)) rfl (by kernel_rfl) (by kernel_rfl) (by kernel_rfl) (fun _ _ _ h => h) (Or.inl ⟨by kernel_rfl, fun w1 hSw => by clear hHeld; have q1 := hSw.c1; have q2 := hSw.c2; have q3 := hSw.x0; have q4 := hSw.x1; go_simp⟩) hHeld ?_
      try simp only [Act.put]
      try simp only [List.getElem_toArray]
      try simp only [List.getElem_cons_succ]
      try simp only [List.getElem_cons_zero]
      try simp only [List.setIfInBounds_toArray]
      try simp only [List.set_cons_succ, List.set_cons_zero]
      refine wpAnyH_take (i := 8) (v := .int .i64 jba) rfl (by kernel_rfl) (by kernel_rfl) (by kernel_rfl) (fun _ _ _ h => h) (Or.inl ⟨by kernel_rfl, fun w1 hSw => by clear hHeld; have q1 := hSw.c1; have q2 := hSw.c2; have q3 := hSw.x0; have q4 := hSw.x1; go_simp⟩) hHeld ?_
      try simp only [Act.put]
      try simp only [List.getElem_toArray]
      try simp only [List.getElem_cons_succ]
      try simp only [List.getElem_cons_zero]
      try simp only [List.setIfInBounds_toArray]
      try simp only [List.set_cons_succ, List.set_cons_zero]
      refine wpAnyH_take (i := 9) (v := .pointer (some ⟨X, 0, none⟩)) rfl (by kernel_rfl) (by kernel_rfl) (by kernel_rfl) (fun _ _ _ h => h) (Or.inl ⟨by kernel_rfl, fun w1 hSw => by clear hHeld; have q1 := hSw.c1; have q2 := hSw.c2; have q3 := hSw.x0; have q4 := hSw.x1; go_simp⟩) hHeld ?_
      try simp only [Act.put]
      try simp only [List.getElem_toArray]
      try simp only [List.getElem_cons_succ]
      try simp only [List.getElem_cons_zero]
      try simp only [List.setIfInBounds_toArray]
      try simp only [List.set_cons_succ, List.set_cons_zero]
      refine wpAnyH_take (i := 10) (v := .int .i64 (dn : Int)) rfl (by kernel_rfl) (by kernel_rfl) (by kernel_rfl) (fun _ _ _ h => h) (Or.inl ⟨by kernel_rfl, fun w1 hSw => by clear hHeld; have q1 := hSw.c1; have q2 := hSw.c2; have q3 := hSw.x0; have q4 := hSw.x1; go_simp⟩) hHeld ?_
      try simp only [Act.put]
      try simp only [List.getElem_toArray]
      try simp only [List.getElem_cons_succ]
      try simp only [List.getElem_cons_zero]
      try simp only [List.setIfInBounds_toArray]
      try simp only [List.set_cons_succ, List.set_cons_zero]
      refine wpAnyH_take (i := 11) (v := .pointer (some ⟨X, 1, none⟩)) rfl (by kernel_rfl) (by kernel_rfl) (by kernel_rfl) (fun _ _ _ h => h) (Or.inl ⟨by kernel_rfl, fun w1 hSw => by clear hHeld; have q1 := hSw.c1; have q2 := hSw.c2; have q3 := hSw.x0; have q4 := hSw.x1; go_simp⟩) hHeld ?_
      try simp only [Act.put]
      try simp only [List.getElem_toArray]
      try simp only [List.getElem_cons_succ]
      try simp only [List.getElem_cons_zero]
      try simp only [List.setIfInBounds_toArray]
      try simp only [List.set_cons_succ, List.set_cons_zero]
      refine wpAnyH_take (i := 12) (v := .string dt) rfl (by kernel_rfl) (by kernel_rfl) (by kernel_rfl) (fun _ _ _ h => h) (Or.inl ⟨by kernel_rfl, fun w1 hSw => by clear hHeld; have q1 := hSw.c1; have q2 := hSw.c2; have q3 := hSw.x0; have q4 := hSw.x1; go_simp⟩) hHeld ?_
      try simp only [Act.put]
      try simp only [List.getElem_toArray]
      try simp only [List.getElem_cons_succ]
      try simp only [List.getElem_cons_zero]
      try simp only [List.setIfInBounds_toArray]
      try simp only [List.set_cons_succ, List.set_cons_zero]
      refine wpAnyH_take (i := 13) (v := .agg #[.int .i64 6, .int .i64 0, .int .i64 0, .int .i64 jno, .int .i64 jba, .int .i64 (dn : Int), .int .i64 0, .int .i64 0, .int .u64 0, .string dt, .string ⟨#[]⟩]) rfl (by kernel_rfl) (by kernel_rfl) (by kernel_rfl) (fun _ _ _ h => h) (Or.inl ⟨by kernel_rfl, fun w1 hSw => by clear hHeld; have q1 := hSw.c1; have q2 := hSw.c2; have q3 := hSw.x0; have q4 := hSw.x1; go_simp⟩) hHeld ?_
      try simp only [Act.put]
      try simp only [List.getElem_toArray]
      try simp only [List.getElem_cons_succ]
      try simp only [List.getElem_cons_zero]
      try simp only [List.setIfInBounds_toArray]
      try simp only [List.set_cons_succ, List.set_cons_zero]
      refine wpAnyH_ready (rs := [14]) (by kernel_rfl) (by simp) ?_
      refine AllReadyH.cons rfl (fun K hK => ?_) AllReadyH.nil
      go_simp
      have HS2 := hide (hHeld.up (CH.below_alloc V0.drew (.cells #[.int .i64 6, .int .i64 0, .int .i64 0, .int .i64 jno, .int .i64 jba, .int .i64 (dn : Int), .int .i64 0, .int .i64 0, .int .u64 0, .string dt, .string ⟨#[]⟩] 67)))
      have HE2 := hide (heap_alloc_new V0.drew (.cells #[.int .i64 6, .int .i64 0, .int .i64 0, .int .i64 jno, .int .i64 jba, .int .i64 (dn : Int), .int .i64 0, .int .i64 0, .int .u64 0, .string dt, .string ⟨#[]⟩] 67))
      have HB2 := hide (HBv.out.trans ((CH.below_alloc V0.drew (.cells #[.int .i64 6, .int .i64 0, .int .i64 0, .int .i64 jno, .int .i64 jba, .int .i64 (dn : Int), .int .i64 0, .int .i64 0, .int .u64 0, .string dt, .string ⟨#[]⟩] 67)).mono HBv.out.size))
      have HO2 := hide (CH.own_below HOv.out (CH.below_alloc V0.drew (.cells #[.int .i64 6, .int .i64 0, .int .i64 0, .int .i64 jno, .int .i64 jba, .int .i64 (dn : Int), .int .i64 0, .int .i64 0, .int .u64 0, .string dt, .string ⟨#[]⟩] 67)))
      refine hK.out _ _ (HS2.out) (fun hHeld => ?_)
      clear hK K
      try simp only [Act.put]
      try simp only [List.getElem_toArray]
      try simp only [List.getElem_cons_succ]
      try simp only [List.getElem_cons_zero]
      try simp only [List.setIfInBounds_toArray]
      try simp only [List.set_cons_succ, List.set_cons_zero]
      refine wpAnyH_ready (rs := [15]) (by kernel_rfl) (by simp) ?_
      refine AllReadyH.cons rfl (fun K hK => ?_) AllReadyH.nil
      refine step_append_lies _ rfl (.tmp 16) (.tmp 30) 114 rfl w2.heap.size 67 iM _ 11 104 Tryz.underlying114 hiM zM0 zM1 zM2 rfl (by decide) (.slice adu i capu) i (mcs ((D.take i).map F)) rfl HO2.out ⟨V0.drew.heap.size, 0, none⟩ 1 1 [.int .i64 6, .int .i64 0, .int .i64 0, .int .i64 jno, .int .i64 jba, .int .i64 (dn : Int), .int .i64 0, .int .i64 0, .int .u64 0, .string dt, .string ⟨#[]⟩] rfl rfl (World.news_of_block HE2.out) (by simp [Value.oneCell']) (by decide) (by unfold maxLen; omega) (by omega) (HB2.out.size) _ rfl ?_
      intro g4 cap4 V4 hown4 hgr4 _ hg4
      have HO4 := hide hown4
      have HB4 := hide (CH.grown_of HB2.out hgr4 HB2.out.size (fun k hk => (HO2.out.lt k hk).1))
      have HS4 := hide (HS2.out.row hgr4 (fun e => HrJ.out e.symm) (fun e => HrX.out e.symm))
      clear hown4 hgr4
      refine hK.out _ _ (HS4.out) (fun hHeld => ?_)
      clear hK K
      try simp only [Act.put]
      try simp only [List.getElem_toArray]
      try simp only [List.getElem_cons_succ]
      try simp only [List.getElem_cons_zero]
      try simp only [List.setIfInBounds_toArray]
      try simp only [List.set_cons_succ, List.set_cons_zero]
      refine wpAnyH_take (i := 16) (v := .slice (some ⟨g4, 0, none⟩) (i + 1) cap4) rfl (by kernel_rfl) (by kernel_rfl) (by kernel_rfl) (fun _ _ _ h => h) (Or.inl ⟨by kernel_rfl, fun w1 hSw => by clear hHeld; have q1 := hSw.c1; have q2 := hSw.c2; have q3 := hSw.x0; have q4 := hSw.x1; go_simp⟩) hHeld ?_
      try simp only [Act.put]
      try simp only [List.getElem_toArray]
      try simp only [List.getElem_cons_succ]
      try simp only [List.getElem_cons_zero]
      try simp only [List.setIfInBounds_toArray]
      try simp only [List.set_cons_succ, List.set_cons_zero]
      refine wpAnyH_done (by kernel_rfl) ?_ _
      go_wp2_with fail
      go_roundw
      case rel => exact ⟨i + 1, by go_num, by omega, by rw [HMs.out]; exact HO4, HB4⟩
      case measure => simp only [intOf]; omega
    · obtain rfl : i = N := by omega
      have hii : ¬ ((i : Int) < (i : Int)) := by omega
      go_wp2_with fail
      go_ret
      refine ⟨_, rfl, ?_, HJ.out.low HB.out⟩
      rw [HDq.out, ← HFq.out, HNn.out]
      have h9 := HO.out
      rw [← HNn.out, List.take_length, HNn.out] at h9
      exact own_weak h9 hsz2
end Go.Proofs.YtkfnedhllfdghaaGreatDoor.RN
end
