import Derived.Test.YtonoogiadgjodaaSoE
namespace Go.Proofs.Ytonoogiadgjodaa
open Go.RowKit

section
variable {B : Nat} {w w' : World} {A : Ja} {j : Jt} {own : Int → Int} {N : Int}
theorem de_one (x : De) : ∀ u ∈ x.cs, u.oneCell' = true := by
  intro u hu
  simp only [De.cs, List.mem_cons, List.not_mem_nil, or_false] at hu
  rcases hu with rfl | rfl | rfl <;> rfl
/-- the deeds have grown -/
theorem Jm.grownD {vd' : Value} {W : List De} {o : Obj} (h : Jm B w A j) (ho : w'.ownsRow B 115 3 vd' W.length (ecs W)) (hg : (w.alloc o).grownBy w' A.vd.ownBlock) (hat : ∀ k, vd'.ownBlock = some k → A.vd.ownBlock = some k ∨ w.heap.size ≤ k) : Jm B (w'.setCell ⟨A.a, 6, none⟩ vd') { A with vd := vd' } { j with deeds := W } ∧ Jv A { A with vd := vd' } w (w'.setCell ⟨A.a, 6, none⟩ vd') := by
  have keep : ∀ k, k < w.heap.size → A.vd.ownBlock ≠ some k → w'.heap[k]? = w.heap[k]? := fun k hk hn => (hg.block k (by rw [World.size_alloc]; omega) (Ne.symm hn)).trans (Below.heap_alloc w o k hk)
  have ne : ∀ {k cs t}, w.heap[k]? = some (Obj.cells cs t (0, 0)) → 115 ≠ t → w'.heap[k]? = w.heap[k]? := fun {k cs t} e1 ht => keep k (lt_of_block e1) fun e2 => by
    obtain ⟨ds, hds⟩ := own_blk h.rd e2; exact blk_ne hds e1 ht rfl
  have hja := (ne h.hj (by decide)).trans h.hj
  have set : ∀ k, k ≠ A.a → (w'.setCell ⟨A.a, 6, none⟩ vd').heap[k]? = w'.heap[k]? := fun k hk => Below.heap_setCell _ _ _ k hk
  obtain ⟨cg, hcg⟩ := own_blk h.tm.row (k := A.tg) rfl
  refine ⟨⟨heap_set_self w' A.a 6 vd' _ _ _ hja, ?_, ?_, ?_, ?_, h.la, h.lb⟩, ⟨hg.os, hg.tape, hg.output, by rw [setCell_size]; have := hg.size; rw [World.size_alloc] at this; omega, fun k hk hn => ?_, fun k hk => ?_⟩⟩
  · exact (set _ (blk_ne h.cb h.hj (by decide))).trans ((ne h.cb (by decide)).trans h.cb)
  · exact h.tm.keep ((set _ (blk_ne h.tm.hb h.hj (by decide))).trans (ne h.tm.hb (by decide))) ((set _ (blk_ne hcg h.hj (by decide))).trans (ne hcg (by decide)))
  · refine own_keep h.rw_ fun k hk => ?_
    obtain ⟨cs, hcs⟩ := own_blk h.rw_ hk
    exact (set k (blk_ne hcs h.hj (by decide))).trans (ne hcs (by decide))
  · refine own_keep ho fun k hk => set k fun e => ?_
    obtain ⟨cs, hcs⟩ := own_blk ho hk
    exact blk_ne hcs hja (by decide) e
  · rw [set k fun e => hn (.inl e)]
    exact keep k hk fun e => hn (.inr (.inr (.inr (.inr e))))
  · rcases hk with hk | hk | hk | hk | hk
    · exact .inl (.inl hk)
    · exact .inl (.inr (.inl hk))
    · exact .inl (.inr (.inr (.inl hk)))
    · exact .inl (.inr (.inr (.inr (.inl hk))))
    · exact (hat k hk).imp (fun e => .inr (.inr (.inr (.inr e)))) id
set_option maxHeartbeats 1000000 in
set_option maxRecDepth 8000 in
theorem acts_any (h : Jm B w A j) (hB : B ≤ w.heap.size) (hl : j.deeds.length ≤ 4194304) (m : Sm) (ak : Int) (hn : m.nu = lastN m.se j.deeds 0 + 1) (hn0 : 0 ≤ m.nu) (hn1 : m.nu ≤ 4194305) : Calls Try.prog 62 #[.pointer (some ⟨A.a, 0, none⟩), .agg #[.int .i64 m.k, .int .i64 m.se, .int .i64 m.nu, .int .i64 m.jo, .int .i64 m.ba, .int .i64 m.ix, .int .i64 m.co, .int .i64 m.rc, .int .u64 (m.rb : Int), .string m.tx, .string m.pr], .int .i64 ak] w fun e w' => e = .returned (.int .i64 ((j.deeds.length + 1 : Nat) : Int)) ∧ JPost B w A { j with deeds := j.deeds ++ [⟨m.se, m.nu, ak⟩] } w' := by
  obtain ⟨i0, hi0, hz0, hz1, hz2⟩ := info_parts Try.infoDe
  have HX : Hid (Mx (w.alloc (.cells #[.int .i64 m.k, .int .i64 m.se, .int .i64 m.nu, .int .i64 m.jo, .int .i64 m.ba, .int .i64 m.ix, .int .i64 m.co, .int .i64 m.rc, .int .u64 (m.rb : Int), .string m.tx, .string m.pr] 36)) w.heap.size m) := hide (heap_alloc_new w _)
  have HM := hide (h.below (below_alloc w (.cells #[.int .i64 m.k, .int .i64 m.se, .int .i64 m.nu, .int .i64 m.jo, .int .i64 m.ba, .int .i64 m.ix, .int .i64 m.co, .int .i64 m.rc, .int .u64 (m.rb : Int), .string m.tx, .string m.pr] 36)))
  have HJ : Hid (Jv A A w (w.alloc (.cells #[.int .i64 m.k, .int .i64 m.se, .int .i64 m.nu, .int .i64 m.jo, .int .i64 m.ba, .int .i64 m.ix, .int .i64 m.co, .int .i64 m.rc, .int .u64 (m.rb : Int), .string m.tx, .string m.pr] 36))) := hide (Jv.of_below (below_alloc w _))
  have HXA : Hid (w.heap.size ≠ A.a) := hide (by have := h.lt; omega)
  have HXN : Hid (A.vd.ownBlock ≠ some w.heap.size) := hide fun e => by have := (h.rd.lt _ e).2; omega
  have HWL := hide hl
  have HNU := hide hn
  have HBS : Hid (B ≤ w.heap.size) := hide hB
  clear hn
  obtain ⟨ad0, cap0, hv0⟩ := own_slice h.rd
  have HV := hide hv0
  clear h hl hB hv0
  go_enter Try.func62, Try.ntmps62
  go_wp2_with fail
  obtain ⟨P, hP⟩ : ∃ P, w.heap.size = P := ⟨_, rfl⟩
  rw [hP] at HX HXA HXN
  try rw [hP]
  clear hP
  generalize w.alloc (.cells #[.int .i64 m.k, .int .i64 m.se, .int .i64 m.nu, .int .i64 m.jo, .int .i64 m.ba, .int .i64 m.ix, .int .i64 m.co, .int .i64 m.rc, .int .u64 (m.rb : Int), .string m.tx, .string m.pr] 36) = W0 at *
  go_loopw [7, 8] (fun u v wr => ∃ i : Nat, i ≤ j.deeds.length ∧ v = .int .i64 (i : Int) ∧ u = .int .i64 (lastN m.se (j.deeds.take i) 0) ∧ Hid (Jm B wr A j) ∧ Hid (Mx wr P m) ∧ Hid (Jv A A w wr)) (fun _ v _ => j.deeds.length - (intOf v).toNat)
  case atStart => exact ⟨0, Nat.zero_le _, rfl, rfl, HM, HX, HJ⟩
  case round =>
    clear HM HX HJ
    obtain ⟨i, hi, rfl, rfl, HM, HX, HJ⟩ := hrel
    by_cases hid : i < j.deeds.length
    · have hii : (i : Int) < (j.deeds.length : Int) := by omega
      have hil : (i : Int) ≤ 4194304 := by have := HWL.out; omega
      obtain ⟨g, cap, hv, hg⟩ : ∃ g cap, A.vd = .slice (some ⟨g, 0, none⟩) j.deeds.length cap ∧ g < wr.heap.size := by
        rcases own_form HM.out.rd with ⟨_, h0⟩ | h0
        · omega
        · exact h0
      have x6 : wr.cell? ⟨A.a, 6, none⟩ = some (.slice (some ⟨g, 0, none⟩) j.deeds.length cap) := by rw [← hv]; exact HM.out.cells.2.2.2.2.2.2.1
      have HO : Hid (wr.ownsRow B 115 3 (.slice (some ⟨g, 0, none⟩) j.deeds.length cap) j.deeds.length (ecs j.deeds)) := hide (by rw [← hv]; exact HM.out.rd)
      obtain ⟨d, hd⟩ : ∃ d, j.deeds[i]? = some d := ⟨_, List.getElem?_eq_getElem hid⟩
      have hd2 : j.deeds[i] = d := by have := List.getElem?_eq_getElem hid; rw [hd] at this; injection this with this; exact this.symm
      have x0 : wr.cell? ⟨g, i * 3, none⟩ = some (.int .i64 d.se) := (HO.out.cellAt (i * 3) (by omega)).trans (by have := ecs_get j.deeds i 0 hid (by omega); rw [Nat.add_zero, hd2] at this; exact this)
      have x1 : wr.cell? ⟨g, i * 3 + 1, none⟩ = some (.int .i64 d.nu) := (HO.out.cellAt (i * 3 + 1) (by omega)).trans (by have := ecs_get j.deeds i 1 hid (by omega); rw [hd2] at this; exact this)
      have x2 : wr.cell? ⟨P, 1, none⟩ = some (.int .i64 m.se) := by have := HX.out; unfold Mx at this; simp [World.cell?, this, smC]
      have HCe : Hid (∀ V : World, (V.heap[A.a]? = wr.heap[A.a]? ∧ V.heap[g]? = wr.heap[g]? ∧ V.heap[P]? = wr.heap[P]?) → V.cell? ⟨A.a, 6, none⟩ = some (.slice (some ⟨g, 0, none⟩) j.deeds.length cap) ∧ V.cell? ⟨g, i * 3, none⟩ = some (.int .i64 d.se) ∧ V.cell? ⟨P, 1, none⟩ = some (.int .i64 m.se)) := hide fun V hV => ⟨by rw [← x6]; unfold World.cell?; rw [hV.1], by rw [← x0]; unfold World.cell?; rw [hV.2.1], by rw [← x2]; unfold World.cell?; rw [hV.2.2]⟩
      have HLT : Hid (lastN m.se (j.deeds.take (i + 1)) 0 = if d.se = m.se then d.nu else lastN m.se (j.deeds.take i) 0) := hide (by rw [List.take_succ_eq_append_getElem hid, lastN_append, hd2])
      have hal := HM.out.lt
      clear hv hd hd2 HO
      by_cases hq : d.se = m.se
      · have HLT : Hid (lastN m.se (j.deeds.take (i + 1)) 0 = d.nu) := hide (by rw [HLT.out, if_pos hq])
        have bq : (d.se == m.se) = true := by simpa using hq
        clear hq
        go_wp2_with fail
        refine wp_region_held_drew (S := fun w' => w'.heap[A.a]? = wr.heap[A.a]? ∧ w'.heap[g]? = wr.heap[g]? ∧ w'.heap[P]? = wr.heap[P]?) (by kernel_rfl) (⟨rfl, rfl, rfl⟩) (fun hHeld => ?_)
        refine wpAnyH_take (i := 0) (v := .pointer (some ⟨A.a, 0, none⟩)) rfl (by kernel_rfl) (by kernel_rfl) (by kernel_rfl) (fun _ _ _ h => h) (Or.inl ⟨by kernel_rfl, fun w1 hSw => by clear hHeld; obtain ⟨k0, k1, k2⟩ := HCe.out _ hSw; go_simp⟩) hHeld ?_
        try simp only [Act.put]
        try simp only [List.getElem_toArray]
        try simp only [List.getElem_cons_succ]
        try simp only [List.getElem_cons_zero]
        try simp only [List.setIfInBounds_toArray]
        try simp only [List.set_cons_succ, List.set_cons_zero]
        refine wpAnyH_take (i := 1) (v := .pointer (some ⟨A.a, 0, none⟩)) rfl (by kernel_rfl) (by kernel_rfl) (by kernel_rfl) (fun _ _ _ h => h) (Or.inl ⟨by kernel_rfl, fun w1 hSw => by clear hHeld; obtain ⟨k0, k1, k2⟩ := HCe.out _ hSw; go_simp⟩) hHeld ?_
        try simp only [Act.put]
        try simp only [List.getElem_toArray]
        try simp only [List.getElem_cons_succ]
        try simp only [List.getElem_cons_zero]
        try simp only [List.setIfInBounds_toArray]
        try simp only [List.set_cons_succ, List.set_cons_zero]
        refine wpAnyH_take (i := 2) (v := .pointer (some ⟨A.a, 6, none⟩)) rfl (by kernel_rfl) (by kernel_rfl) (by kernel_rfl) (fun _ _ _ h => h) (Or.inl ⟨by kernel_rfl, fun w1 hSw => by clear hHeld; obtain ⟨k0, k1, k2⟩ := HCe.out _ hSw; go_simp⟩) hHeld ?_
        try simp only [Act.put]
        try simp only [List.getElem_toArray]
        try simp only [List.getElem_cons_succ]
        try simp only [List.getElem_cons_zero]
        try simp only [List.setIfInBounds_toArray]
        try simp only [List.set_cons_succ, List.set_cons_zero]
        refine wpAnyH_take (i := 3) (v := .slice (some ⟨g, 0, none⟩) j.deeds.length cap) rfl (by kernel_rfl) (by kernel_rfl) (by kernel_rfl) (fun _ _ _ h => h) (Or.inl ⟨by kernel_rfl, fun w1 hSw => by clear hHeld; obtain ⟨k0, k1, k2⟩ := HCe.out _ hSw; go_simp⟩) hHeld ?_
        try simp only [Act.put]
        try simp only [List.getElem_toArray]
        try simp only [List.getElem_cons_succ]
        try simp only [List.getElem_cons_zero]
        try simp only [List.setIfInBounds_toArray]
        try simp only [List.set_cons_succ, List.set_cons_zero]
        refine wpAnyH_take (i := 4) (v := .int .i64 (i : Int)) rfl (by kernel_rfl) (by kernel_rfl) (by kernel_rfl) (fun _ _ _ h => h) (Or.inl ⟨by kernel_rfl, fun w1 hSw => by clear hHeld; obtain ⟨k0, k1, k2⟩ := HCe.out _ hSw; go_simp⟩) hHeld ?_
        try simp only [Act.put]
        try simp only [List.getElem_toArray]
        try simp only [List.getElem_cons_succ]
        try simp only [List.getElem_cons_zero]
        try simp only [List.setIfInBounds_toArray]
        try simp only [List.set_cons_succ, List.set_cons_zero]
        refine wpAnyH_take (i := 5) (v := .pointer (some ⟨g, i * 3, none⟩)) rfl (by kernel_rfl) (by kernel_rfl) (by kernel_rfl) (fun _ _ _ h => h) (Or.inl ⟨by kernel_rfl, fun w1 hSw => by clear hHeld; obtain ⟨k0, k1, k2⟩ := HCe.out _ hSw; go_simp⟩) hHeld ?_
        try simp only [Act.put]
        try simp only [List.getElem_toArray]
        try simp only [List.getElem_cons_succ]
        try simp only [List.getElem_cons_zero]
        try simp only [List.setIfInBounds_toArray]
        try simp only [List.set_cons_succ, List.set_cons_zero]
        refine wpAnyH_take (i := 6) (v := .pointer (some ⟨g, i * 3, none⟩)) rfl (by kernel_rfl) (by kernel_rfl) (by kernel_rfl) (fun _ _ _ h => h) (Or.inl ⟨by kernel_rfl, fun w1 hSw => by clear hHeld; obtain ⟨k0, k1, k2⟩ := HCe.out _ hSw; go_simp⟩) hHeld ?_
        try simp only [Act.put]
        try simp only [List.getElem_toArray]
        try simp only [List.getElem_cons_succ]
        try simp only [List.getElem_cons_zero]
        try simp only [List.setIfInBounds_toArray]
        try simp only [List.set_cons_succ, List.set_cons_zero]
        refine wpAnyH_take (i := 7) (v := .int .i64 d.se) rfl (by kernel_rfl) (by kernel_rfl) (by kernel_rfl) (fun _ _ _ h => h) (Or.inl ⟨by kernel_rfl, fun w1 hSw => by clear hHeld; obtain ⟨k0, k1, k2⟩ := HCe.out _ hSw; go_simp⟩) hHeld ?_
        try simp only [Act.put]
        try simp only [List.getElem_toArray]
        try simp only [List.getElem_cons_succ]
        try simp only [List.getElem_cons_zero]
        try simp only [List.setIfInBounds_toArray]
        try simp only [List.set_cons_succ, List.set_cons_zero]
        refine wpAnyH_take (i := 8) (v := .pointer (some ⟨P, 1, none⟩)) rfl (by kernel_rfl) (by kernel_rfl) (by kernel_rfl) (fun _ _ _ h => h) (Or.inl ⟨by kernel_rfl, fun w1 hSw => by clear hHeld; obtain ⟨k0, k1, k2⟩ := HCe.out _ hSw; go_simp⟩) hHeld ?_
        try simp only [Act.put]
        try simp only [List.getElem_toArray]
        try simp only [List.getElem_cons_succ]
        try simp only [List.getElem_cons_zero]
        try simp only [List.setIfInBounds_toArray]
        try simp only [List.set_cons_succ, List.set_cons_zero]
        refine wpAnyH_take (i := 9) (v := .int .i64 m.se) rfl (by kernel_rfl) (by kernel_rfl) (by kernel_rfl) (fun _ _ _ h => h) (Or.inl ⟨by kernel_rfl, fun w1 hSw => by clear hHeld; obtain ⟨k0, k1, k2⟩ := HCe.out _ hSw; go_simp⟩) hHeld ?_
        try simp only [Act.put]
        try simp only [List.getElem_toArray]
        try simp only [List.getElem_cons_succ]
        try simp only [List.getElem_cons_zero]
        try simp only [List.setIfInBounds_toArray]
        try simp only [List.set_cons_succ, List.set_cons_zero]
        refine wpAnyH_take (i := 10) (v := .bool true) rfl (by kernel_rfl) (by kernel_rfl) (by kernel_rfl) (fun _ _ _ h => h) (Or.inl ⟨by kernel_rfl, fun w1 hSw => by clear hHeld; obtain ⟨k0, k1, k2⟩ := HCe.out _ hSw; go_simp⟩) hHeld ?_
        try simp only [Act.put]
        try simp only [List.getElem_toArray]
        try simp only [List.getElem_cons_succ]
        try simp only [List.getElem_cons_zero]
        try simp only [List.setIfInBounds_toArray]
        try simp only [List.set_cons_succ, List.set_cons_zero]
        refine wpAnyH_done (by kernel_rfl) ?_ _
        skip
        have y6 : wr.drew.cell? ⟨A.a, 6, none⟩ = some (.slice (some ⟨g, 0, none⟩) j.deeds.length cap) := x6
        have y1 : wr.drew.cell? ⟨g, i * 3 + 1, none⟩ = some (.int .i64 d.nu) := x1
        clear hHeld
        go_wp2_with fail
        go_roundw
        case rel => exact ⟨i + 1, by omega, by go_num, by rw [HLT.out], hide (HM.out.below ⟨rfl, rfl, rfl, Nat.le_refl _, fun _ _ => rfl⟩), HX, hide ⟨HJ.out.os, HJ.out.tape, HJ.out.output, HJ.out.size, HJ.out.block, HJ.out.grow⟩⟩
        case measure => simp only [intOf]; omega
      · have HLT : Hid (lastN m.se (j.deeds.take (i + 1)) 0 = lastN m.se (j.deeds.take i) 0) := hide (by rw [HLT.out, if_neg hq])
        have bq : (d.se == m.se) = false := by simpa using hq
        clear hq
        go_wp2_with fail
        refine wp_region_held_drew (S := fun w' => w'.heap[A.a]? = wr.heap[A.a]? ∧ w'.heap[g]? = wr.heap[g]? ∧ w'.heap[P]? = wr.heap[P]?) (by kernel_rfl) (⟨rfl, rfl, rfl⟩) (fun hHeld => ?_)
        refine wpAnyH_take (i := 0) (v := .pointer (some ⟨A.a, 0, none⟩)) rfl (by kernel_rfl) (by kernel_rfl) (by kernel_rfl) (fun _ _ _ h => h) (Or.inl ⟨by kernel_rfl, fun w1 hSw => by clear hHeld; obtain ⟨k0, k1, k2⟩ := HCe.out _ hSw; go_simp⟩) hHeld ?_
        try simp only [Act.put]
        try simp only [List.getElem_toArray]
        try simp only [List.getElem_cons_succ]
        try simp only [List.getElem_cons_zero]
        try simp only [List.setIfInBounds_toArray]
        try simp only [List.set_cons_succ, List.set_cons_zero]
        refine wpAnyH_take (i := 1) (v := .pointer (some ⟨A.a, 0, none⟩)) rfl (by kernel_rfl) (by kernel_rfl) (by kernel_rfl) (fun _ _ _ h => h) (Or.inl ⟨by kernel_rfl, fun w1 hSw => by clear hHeld; obtain ⟨k0, k1, k2⟩ := HCe.out _ hSw; go_simp⟩) hHeld ?_
        try simp only [Act.put]
        try simp only [List.getElem_toArray]
        try simp only [List.getElem_cons_succ]
        try simp only [List.getElem_cons_zero]
        try simp only [List.setIfInBounds_toArray]
        try simp only [List.set_cons_succ, List.set_cons_zero]
        refine wpAnyH_take (i := 2) (v := .pointer (some ⟨A.a, 6, none⟩)) rfl (by kernel_rfl) (by kernel_rfl) (by kernel_rfl) (fun _ _ _ h => h) (Or.inl ⟨by kernel_rfl, fun w1 hSw => by clear hHeld; obtain ⟨k0, k1, k2⟩ := HCe.out _ hSw; go_simp⟩) hHeld ?_
        try simp only [Act.put]
        try simp only [List.getElem_toArray]
        try simp only [List.getElem_cons_succ]
        try simp only [List.getElem_cons_zero]
        try simp only [List.setIfInBounds_toArray]
        try simp only [List.set_cons_succ, List.set_cons_zero]
        refine wpAnyH_take (i := 3) (v := .slice (some ⟨g, 0, none⟩) j.deeds.length cap) rfl (by kernel_rfl) (by kernel_rfl) (by kernel_rfl) (fun _ _ _ h => h) (Or.inl ⟨by kernel_rfl, fun w1 hSw => by clear hHeld; obtain ⟨k0, k1, k2⟩ := HCe.out _ hSw; go_simp⟩) hHeld ?_
        try simp only [Act.put]
        try simp only [List.getElem_toArray]
        try simp only [List.getElem_cons_succ]
        try simp only [List.getElem_cons_zero]
        try simp only [List.setIfInBounds_toArray]
        try simp only [List.set_cons_succ, List.set_cons_zero]
        refine wpAnyH_take (i := 4) (v := .int .i64 (i : Int)) rfl (by kernel_rfl) (by kernel_rfl) (by kernel_rfl) (fun _ _ _ h => h) (Or.inl ⟨by kernel_rfl, fun w1 hSw => by clear hHeld; obtain ⟨k0, k1, k2⟩ := HCe.out _ hSw; go_simp⟩) hHeld ?_
        try simp only [Act.put]
        try simp only [List.getElem_toArray]
        try simp only [List.getElem_cons_succ]
        try simp only [List.getElem_cons_zero]
        try simp only [List.setIfInBounds_toArray]
        try simp only [List.set_cons_succ, List.set_cons_zero]
        refine wpAnyH_take (i := 5) (v := .pointer (some ⟨g, i * 3, none⟩)) rfl (by kernel_rfl) (by kernel_rfl) (by kernel_rfl) (fun _ _ _ h => h) (Or.inl ⟨by kernel_rfl, fun w1 hSw => by clear hHeld; obtain ⟨k0, k1, k2⟩ := HCe.out _ hSw; go_simp⟩) hHeld ?_
        try simp only [Act.put]
        try simp only [List.getElem_toArray]
        try simp only [List.getElem_cons_succ]
        try simp only [List.getElem_cons_zero]
        try simp only [List.setIfInBounds_toArray]
        try simp only [List.set_cons_succ, List.set_cons_zero]
        refine wpAnyH_take (i := 6) (v := .pointer (some ⟨g, i * 3, none⟩)) rfl (by kernel_rfl) (by kernel_rfl) (by kernel_rfl) (fun _ _ _ h => h) (Or.inl ⟨by kernel_rfl, fun w1 hSw => by clear hHeld; obtain ⟨k0, k1, k2⟩ := HCe.out _ hSw; go_simp⟩) hHeld ?_
        try simp only [Act.put]
        try simp only [List.getElem_toArray]
        try simp only [List.getElem_cons_succ]
        try simp only [List.getElem_cons_zero]
        try simp only [List.setIfInBounds_toArray]
        try simp only [List.set_cons_succ, List.set_cons_zero]
        refine wpAnyH_take (i := 7) (v := .int .i64 d.se) rfl (by kernel_rfl) (by kernel_rfl) (by kernel_rfl) (fun _ _ _ h => h) (Or.inl ⟨by kernel_rfl, fun w1 hSw => by clear hHeld; obtain ⟨k0, k1, k2⟩ := HCe.out _ hSw; go_simp⟩) hHeld ?_
        try simp only [Act.put]
        try simp only [List.getElem_toArray]
        try simp only [List.getElem_cons_succ]
        try simp only [List.getElem_cons_zero]
        try simp only [List.setIfInBounds_toArray]
        try simp only [List.set_cons_succ, List.set_cons_zero]
        refine wpAnyH_take (i := 8) (v := .pointer (some ⟨P, 1, none⟩)) rfl (by kernel_rfl) (by kernel_rfl) (by kernel_rfl) (fun _ _ _ h => h) (Or.inl ⟨by kernel_rfl, fun w1 hSw => by clear hHeld; obtain ⟨k0, k1, k2⟩ := HCe.out _ hSw; go_simp⟩) hHeld ?_
        try simp only [Act.put]
        try simp only [List.getElem_toArray]
        try simp only [List.getElem_cons_succ]
        try simp only [List.getElem_cons_zero]
        try simp only [List.setIfInBounds_toArray]
        try simp only [List.set_cons_succ, List.set_cons_zero]
        refine wpAnyH_take (i := 9) (v := .int .i64 m.se) rfl (by kernel_rfl) (by kernel_rfl) (by kernel_rfl) (fun _ _ _ h => h) (Or.inl ⟨by kernel_rfl, fun w1 hSw => by clear hHeld; obtain ⟨k0, k1, k2⟩ := HCe.out _ hSw; go_simp⟩) hHeld ?_
        try simp only [Act.put]
        try simp only [List.getElem_toArray]
        try simp only [List.getElem_cons_succ]
        try simp only [List.getElem_cons_zero]
        try simp only [List.setIfInBounds_toArray]
        try simp only [List.set_cons_succ, List.set_cons_zero]
        refine wpAnyH_take (i := 10) (v := .bool false) rfl (by kernel_rfl) (by kernel_rfl) (by kernel_rfl) (fun _ _ _ h => h) (Or.inl ⟨by kernel_rfl, fun w1 hSw => by clear hHeld; obtain ⟨k0, k1, k2⟩ := HCe.out _ hSw; go_simp⟩) hHeld ?_
        try simp only [Act.put]
        try simp only [List.getElem_toArray]
        try simp only [List.getElem_cons_succ]
        try simp only [List.getElem_cons_zero]
        try simp only [List.setIfInBounds_toArray]
        try simp only [List.set_cons_succ, List.set_cons_zero]
        refine wpAnyH_done (by kernel_rfl) ?_ _
        skip
        have y6 : wr.drew.cell? ⟨A.a, 6, none⟩ = some (.slice (some ⟨g, 0, none⟩) j.deeds.length cap) := x6
        have y1 : wr.drew.cell? ⟨g, i * 3 + 1, none⟩ = some (.int .i64 d.nu) := x1
        clear hHeld
        go_wp2_with fail
        go_roundw
        case rel => exact ⟨i + 1, by omega, by go_num, by rw [HLT.out], hide (HM.out.below ⟨rfl, rfl, rfl, Nat.le_refl _, fun _ _ => rfl⟩), HX, hide ⟨HJ.out.os, HJ.out.tape, HJ.out.output, HJ.out.size, HJ.out.block, HJ.out.grow⟩⟩
        case measure => simp only [intOf]; omega
    · have he : i = j.deeds.length := by omega
      subst he
      have x6 : wr.cell? ⟨A.a, 6, none⟩ = some (.slice ad0 j.deeds.length cap0) := by rw [← HV.out]; exact HM.out.cells.2.2.2.2.2.2.1
      rw [List.take_length]
      have hn := HNU.out
      clear HNU
      generalize lastN m.se j.deeds 0 = L at *
      have x2 : wr.cell? ⟨P, 2, none⟩ = some (.int .i64 m.nu) := by have := HX.out; unfold Mx at this; simp [World.cell?, this, smC]
      have b7 : (m.nu != L + 1) = false := by simp; omega
      have hL0 : -1 ≤ L := by omega
      have hL1 : L ≤ 4194304 := by omega
      have HX : Hid (Mx wr P m) := HX
      clear hid hi hn
      go_wp2_with fail
      clear x6 x2
      have HBS : Hid (B ≤ wr.heap.size) := hide (Nat.le_trans HBS.out HJ.out.size)
      have HM : Hid (Jm B wr.drew A j) := hide (HM.out.below ⟨rfl, rfl, rfl, Nat.le_refl _, fun _ _ => rfl⟩)
      have HJ : Hid (Jv A A w wr.drew) := hide ⟨HJ.out.os, HJ.out.tape, HJ.out.output, HJ.out.size, HJ.out.block, HJ.out.grow⟩
      have HX : Hid (Mx wr.drew P m) := HX
      have HNEW : Hid ((wr.drew.alloc (.cells #[.int .i64 m.se, .int .i64 m.nu, .int .i64 ak] 115)).heap[wr.heap.size]? = some (.cells #[.int .i64 m.se, .int .i64 m.nu, .int .i64 ak] 115 (0, 0))) := hide (heap_alloc_new wr.drew _)
      have HCe : Hid (∀ V : World, Mx V P m → V.cell? ⟨P, 1, none⟩ = some (.int .i64 m.se) ∧ V.cell? ⟨P, 2, none⟩ = some (.int .i64 m.nu)) := hide fun V hV => by unfold Mx at hV; simp [World.cell?, hV, smC]
      obtain ⟨a0, a1, a2, a3, a4, a5, a6, a7⟩ := HM.out.cells
      have hal := HM.out.lt
      have hb : (wr.alloc (.cells #[.int .i64 m.se, .int .i64 m.nu, .int .i64 ak] 115)).drew.heap[A.a]? = some (.cells (jC A j) 67 (0, 0)) := (Below.heap_alloc wr (.cells #[.int .i64 m.se, .int .i64 m.nu, .int .i64 ak] 115) A.a HM.out.lt).trans HM.out.hj
      have b6 : (wr.alloc (.cells #[.int .i64 m.se, .int .i64 m.nu, .int .i64 ak] 115)).drew.cell? ⟨A.a, 6, none⟩ = some A.vd := by unfold World.cell?; rw [hb]; rfl
      clear hb
      refine wp_region_held_drew (S := fun w' => Mx w' P m) (by kernel_rfl) (HX.out) (fun hHeld => ?_)
      refine wpAnyH_take (i := 0) (v := .pointer (some ⟨A.a, 0, none⟩)) rfl (by kernel_rfl) (by kernel_rfl) (by kernel_rfl) (fun _ _ _ h => h) (Or.inl ⟨by kernel_rfl, fun w1 hSw => by clear hHeld; obtain ⟨k1, k2⟩ := HCe.out _ hSw; go_simp⟩) hHeld ?_
      try simp only [Act.put]
      try simp only [List.getElem_toArray]
      try simp only [List.getElem_cons_succ]
      try simp only [List.getElem_cons_zero]
      try simp only [List.setIfInBounds_toArray]
      try simp only [List.set_cons_succ, List.set_cons_zero]
      refine wpAnyH_take (i := 1) (v := .pointer (some ⟨A.a, 0, none⟩)) rfl (by kernel_rfl) (by kernel_rfl) (by kernel_rfl) (fun _ _ _ h => h) (Or.inl ⟨by kernel_rfl, fun w1 hSw => by clear hHeld; obtain ⟨k1, k2⟩ := HCe.out _ hSw; go_simp⟩) hHeld ?_
      try simp only [Act.put]
      try simp only [List.getElem_toArray]
      try simp only [List.getElem_cons_succ]
      try simp only [List.getElem_cons_zero]
      try simp only [List.setIfInBounds_toArray]
      try simp only [List.set_cons_succ, List.set_cons_zero]
      refine wpAnyH_take (i := 2) (v := .pointer (some ⟨A.a, 0, none⟩)) rfl (by kernel_rfl) (by kernel_rfl) (by kernel_rfl) (fun _ _ _ h => h) (Or.inl ⟨by kernel_rfl, fun w1 hSw => by clear hHeld; obtain ⟨k1, k2⟩ := HCe.out _ hSw; go_simp⟩) hHeld ?_
      try simp only [Act.put]
      try simp only [List.getElem_toArray]
      try simp only [List.getElem_cons_succ]
      try simp only [List.getElem_cons_zero]
      try simp only [List.setIfInBounds_toArray]
      try simp only [List.set_cons_succ, List.set_cons_zero]
      refine wpAnyH_take (i := 3) (v := .pointer (some ⟨A.a, 6, none⟩)) rfl (by kernel_rfl) (by kernel_rfl) (by kernel_rfl) (fun _ _ _ h => h) (Or.inl ⟨by kernel_rfl, fun w1 hSw => by clear hHeld; obtain ⟨k1, k2⟩ := HCe.out _ hSw; go_simp⟩) hHeld ?_
      try simp only [Act.put]
      try simp only [List.getElem_toArray]
      try simp only [List.getElem_cons_succ]
      try simp only [List.getElem_cons_zero]
      try simp only [List.setIfInBounds_toArray]
      try simp only [List.set_cons_succ, List.set_cons_zero]
      refine wpAnyH_take (i := 5) (v := .pointer (some ⟨P, 1, none⟩)) rfl (by kernel_rfl) (by kernel_rfl) (by kernel_rfl) (fun _ _ _ h => h) (Or.inl ⟨by kernel_rfl, fun w1 hSw => by clear hHeld; obtain ⟨k1, k2⟩ := HCe.out _ hSw; go_simp⟩) hHeld ?_
      try simp only [Act.put]
      try simp only [List.getElem_toArray]
      try simp only [List.getElem_cons_succ]
      try simp only [List.getElem_cons_zero]
      try simp only [List.setIfInBounds_toArray]
      try simp only [List.set_cons_succ, List.set_cons_zero]
      refine wpAnyH_take (i := 6) (v := .int .i64 m.se) rfl (by kernel_rfl) (by kernel_rfl) (by kernel_rfl) (fun _ _ _ h => h) (Or.inl ⟨by kernel_rfl, fun w1 hSw => by clear hHeld; obtain ⟨k1, k2⟩ := HCe.out _ hSw; go_simp⟩) hHeld ?_
      try simp only [Act.put]
      try simp only [List.getElem_toArray]
      try simp only [List.getElem_cons_succ]
      try simp only [List.getElem_cons_zero]
      try simp only [List.setIfInBounds_toArray]
      try simp only [List.set_cons_succ, List.set_cons_zero]
      refine wpAnyH_take (i := 7) (v := .pointer (some ⟨P, 2, none⟩)) rfl (by kernel_rfl) (by kernel_rfl) (by kernel_rfl) (fun _ _ _ h => h) (Or.inl ⟨by kernel_rfl, fun w1 hSw => by clear hHeld; obtain ⟨k1, k2⟩ := HCe.out _ hSw; go_simp⟩) hHeld ?_
      try simp only [Act.put]
      try simp only [List.getElem_toArray]
      try simp only [List.getElem_cons_succ]
      try simp only [List.getElem_cons_zero]
      try simp only [List.setIfInBounds_toArray]
      try simp only [List.set_cons_succ, List.set_cons_zero]
      refine wpAnyH_take (i := 8) (v := .int .i64 m.nu) rfl (by kernel_rfl) (by kernel_rfl) (by kernel_rfl) (fun _ _ _ h => h) (Or.inl ⟨by kernel_rfl, fun w1 hSw => by clear hHeld; obtain ⟨k1, k2⟩ := HCe.out _ hSw; go_simp⟩) hHeld ?_
      try simp only [Act.put]
      try simp only [List.getElem_toArray]
      try simp only [List.getElem_cons_succ]
      try simp only [List.getElem_cons_zero]
      try simp only [List.setIfInBounds_toArray]
      try simp only [List.set_cons_succ, List.set_cons_zero]
      refine wpAnyH_take (i := 9) (v := .int .i64 ak) rfl (by kernel_rfl) (by kernel_rfl) (by kernel_rfl) (fun _ _ _ h => h) (Or.inl ⟨by kernel_rfl, fun w1 hSw => by clear hHeld; obtain ⟨k1, k2⟩ := HCe.out _ hSw; go_simp⟩) hHeld ?_
      try simp only [Act.put]
      try simp only [List.getElem_toArray]
      try simp only [List.getElem_cons_succ]
      try simp only [List.getElem_cons_zero]
      try simp only [List.setIfInBounds_toArray]
      try simp only [List.set_cons_succ, List.set_cons_zero]
      refine wpAnyH_take (i := 10) (v := .agg #[.int .i64 m.se, .int .i64 m.nu, .int .i64 ak]) rfl (by kernel_rfl) (by kernel_rfl) (by kernel_rfl) (fun _ _ _ h => h) (Or.inl ⟨by kernel_rfl, fun w1 hSw => by clear hHeld; obtain ⟨k1, k2⟩ := HCe.out _ hSw; go_simp⟩) hHeld ?_
      try simp only [Act.put]
      try simp only [List.getElem_toArray]
      try simp only [List.getElem_cons_succ]
      try simp only [List.getElem_cons_zero]
      try simp only [List.setIfInBounds_toArray]
      try simp only [List.set_cons_succ, List.set_cons_zero]
      refine wpAnyH_ready (rs := [4, 11]) (by kernel_rfl) (by simp) ?_
      refine AllReadyH.cons rfl (fun K hK => ?_) (AllReadyH.cons rfl (fun K hK => ?_) AllReadyH.nil)
      · go_simp
        refine hK.out _ _ (hHeld) (fun hHeld => ?_)
        clear hK K
        try simp only [Act.put]
        try simp only [List.getElem_toArray]
        try simp only [List.getElem_cons_succ]
        try simp only [List.getElem_cons_zero]
        try simp only [List.setIfInBounds_toArray]
        try simp only [List.set_cons_succ, List.set_cons_zero]
        refine wpAnyH_ready (rs := [11]) (by kernel_rfl) (by simp) ?_
        refine AllReadyH.cons rfl (fun K hK => ?_) AllReadyH.nil
        go_simp
        refine hK.out _ _ (Mx.below hHeld (below_alloc _ _)) (fun hHeld => ?_)
        clear hK K
        try simp only [Act.put]
        try simp only [List.getElem_toArray]
        try simp only [List.getElem_cons_succ]
        try simp only [List.getElem_cons_zero]
        try simp only [List.setIfInBounds_toArray]
        try simp only [List.set_cons_succ, List.set_cons_zero]
        refine wpAnyH_ready (rs := [12]) (by kernel_rfl) (by simp) ?_
        refine AllReadyH.cons rfl (fun K hK => ?_) AllReadyH.nil
        refine step_append_lies _ rfl (.tmp 49) (.tmp 56) 65 rfl B 115 i0 (.agg #[.int .i64 0, .int .i64 0, .int .i64 0]) 3 24 Try.underlying65 hi0 hz0 hz1 hz2 rfl (by decide) A.vd j.deeds.length (ecs j.deeds) rfl (HM.out.rd.alloc _) ⟨wr.heap.size, 0, none⟩ 1 1 (De.cs ⟨m.se, m.nu, ak⟩) rfl rfl (World.news_of_block (cs := #[.int .i64 m.se, .int .i64 m.nu, .int .i64 ak]) (t := 115) (fr := (0, 0)) HNEW.out) (de_one ⟨m.se, m.nu, ak⟩) (by decide) (by unfold maxLen; have := HWL.out; omega) (by have := HWL.out; omega) (by show _ ≤ (wr.alloc _).heap.size; rw [World.size_alloc]; have := HBS.out; omega) _ rfl ?_
        intro g9 cap9 w9 hown9 hgrow9 hat9 hlt9
        have hO9 : w9.ownsRow B 115 3 (.slice (some ⟨g9, 0, none⟩) (j.deeds.length + 1) cap9) (j.deeds ++ [(⟨m.se, m.nu, ak⟩ : De)]).length (ecs (j.deeds ++ [(⟨m.se, m.nu, ak⟩ : De)])) := by rw [List.length_append, ecs_append]; exact hown9
        have HN := hide (HM.out.grownD (o := .cells #[.int .i64 m.se, .int .i64 m.nu, .int .i64 ak] 115) hO9 hgrow9 (fun k hk => by injection hk with hk; subst hk; rcases hat9 with e | e; (· exact .inl e); (· have e : g9 = (wr.alloc (.cells #[.int .i64 m.se, .int .i64 m.nu, .int .i64 ak] 115)).heap.size := e; rw [World.size_alloc] at e; exact .inr (by show wr.heap.size ≤ g9; omega))))
        have hx9 : Mx w9 P m := ((hgrow9.block P (by show P < (wr.alloc _).heap.size; rw [World.size_alloc]; exact Nat.lt_succ_of_lt (lt_of_block HX.out)) (fun e => HXN.out e.symm)).trans (Below.heap_alloc wr (.cells #[.int .i64 m.se, .int .i64 m.nu, .int .i64 ak] 115) _ (lt_of_block HX.out))).trans HX.out
        have hj9 : w9.heap[A.a]? = some (.cells (jC A j) 67 (0, 0)) := ((hgrow9.block A.a (by show A.a < (wr.alloc _).heap.size; rw [World.size_alloc]; exact Nat.lt_succ_of_lt HM.out.lt) (fun e => by obtain ⟨cs, hcs⟩ := own_blk HM.out.rd e.symm; exact blk_ne hcs HM.out.hj (by decide) rfl)).trans (Below.heap_alloc wr (.cells #[.int .i64 m.se, .int .i64 m.nu, .int .i64 ak] 115) _ HM.out.lt)).trans HM.out.hj
        have y5 : w9.cell? ⟨A.a, 6, none⟩ = some A.vd := by simp [World.cell?, hj9, jC]
        have yz : w9.frozen? ⟨A.a, 6, none⟩ = false := by simp [World.frozen?, hj9]
        have HX9 := hide hx9
        clear hown9 hgrow9 hat9 hO9 hx9 hj9 hlt9
        refine hK.out _ _ (HX9.out) (fun hHeld => ?_)
        clear hK K
        try simp only [Act.put]
        try simp only [List.getElem_toArray]
        try simp only [List.getElem_cons_succ]
        try simp only [List.getElem_cons_zero]
        try simp only [List.setIfInBounds_toArray]
        try simp only [List.set_cons_succ, List.set_cons_zero]
        refine wpAnyH_take (i := 13) (v := .pointer (some ⟨A.a, 0, none⟩)) rfl (by kernel_rfl) (by kernel_rfl) (by kernel_rfl) (fun _ _ _ h => h) (Or.inl ⟨by kernel_rfl, fun w1 hSw => by clear hHeld; obtain ⟨k1, k2⟩ := HCe.out _ hSw; go_simp⟩) hHeld ?_
        try simp only [Act.put]
        try simp only [List.getElem_toArray]
        try simp only [List.getElem_cons_succ]
        try simp only [List.getElem_cons_zero]
        try simp only [List.setIfInBounds_toArray]
        try simp only [List.set_cons_succ, List.set_cons_zero]
        refine wpAnyH_take (i := 14) (v := .pointer (some ⟨A.a, 6, none⟩)) rfl (by kernel_rfl) (by kernel_rfl) (by kernel_rfl) (fun _ _ _ h => h) (Or.inl ⟨by kernel_rfl, fun w1 hSw => by clear hHeld; obtain ⟨k1, k2⟩ := HCe.out _ hSw; go_simp⟩) hHeld ?_
        try simp only [Act.put]
        try simp only [List.getElem_toArray]
        try simp only [List.getElem_cons_succ]
        try simp only [List.getElem_cons_zero]
        try simp only [List.setIfInBounds_toArray]
        try simp only [List.set_cons_succ, List.set_cons_zero]
        refine wpAnyH_ready (rs := [15]) (by kernel_rfl) (by simp) ?_
        refine AllReadyH.cons rfl (fun K hK => ?_) AllReadyH.nil
        go_simp
        refine hK.out _ _ ((Below.heap_setCell _ _ _ P HXA.out).trans HX9.out) (fun hHeld => ?_)
        clear hK K
        try simp only [Act.put]
        try simp only [List.getElem_toArray]
        try simp only [List.getElem_cons_succ]
        try simp only [List.getElem_cons_zero]
        try simp only [List.setIfInBounds_toArray]
        try simp only [List.set_cons_succ, List.set_cons_zero]
        refine wpAnyH_done (by kernel_rfl) ?_ _
        have HF := HN
        clear hHeld
        go_wp2_with fail
        go_ret
        exact ⟨rfl, _, by rfl, HF.out.1, HJ.out.trans HF.out.2⟩
      · go_simp
        refine hK.out _ _ (Mx.below hHeld (below_alloc _ _)) (fun hHeld => ?_)
        clear hK K
        try simp only [Act.put]
        try simp only [List.getElem_toArray]
        try simp only [List.getElem_cons_succ]
        try simp only [List.getElem_cons_zero]
        try simp only [List.setIfInBounds_toArray]
        try simp only [List.set_cons_succ, List.set_cons_zero]
        refine wpAnyH_ready (rs := [4]) (by kernel_rfl) (by simp) ?_
        refine AllReadyH.cons rfl (fun K hK => ?_) AllReadyH.nil
        go_simp
        refine hK.out _ _ (hHeld) (fun hHeld => ?_)
        clear hK K
        try simp only [Act.put]
        try simp only [List.getElem_toArray]
        try simp only [List.getElem_cons_succ]
        try simp only [List.getElem_cons_zero]
        try simp only [List.setIfInBounds_toArray]
        try simp only [List.set_cons_succ, List.set_cons_zero]
        refine wpAnyH_ready (rs := [12]) (by kernel_rfl) (by simp) ?_
        refine AllReadyH.cons rfl (fun K hK => ?_) AllReadyH.nil
        refine step_append_lies _ rfl (.tmp 49) (.tmp 56) 65 rfl B 115 i0 (.agg #[.int .i64 0, .int .i64 0, .int .i64 0]) 3 24 Try.underlying65 hi0 hz0 hz1 hz2 rfl (by decide) A.vd j.deeds.length (ecs j.deeds) rfl (HM.out.rd.alloc _) ⟨wr.heap.size, 0, none⟩ 1 1 (De.cs ⟨m.se, m.nu, ak⟩) rfl rfl (World.news_of_block (cs := #[.int .i64 m.se, .int .i64 m.nu, .int .i64 ak]) (t := 115) (fr := (0, 0)) HNEW.out) (de_one ⟨m.se, m.nu, ak⟩) (by decide) (by unfold maxLen; have := HWL.out; omega) (by have := HWL.out; omega) (by show _ ≤ (wr.alloc _).heap.size; rw [World.size_alloc]; have := HBS.out; omega) _ rfl ?_
        intro g9 cap9 w9 hown9 hgrow9 hat9 hlt9
        have hO9 : w9.ownsRow B 115 3 (.slice (some ⟨g9, 0, none⟩) (j.deeds.length + 1) cap9) (j.deeds ++ [(⟨m.se, m.nu, ak⟩ : De)]).length (ecs (j.deeds ++ [(⟨m.se, m.nu, ak⟩ : De)])) := by rw [List.length_append, ecs_append]; exact hown9
        have HN := hide (HM.out.grownD (o := .cells #[.int .i64 m.se, .int .i64 m.nu, .int .i64 ak] 115) hO9 hgrow9 (fun k hk => by injection hk with hk; subst hk; rcases hat9 with e | e; (· exact .inl e); (· have e : g9 = (wr.alloc (.cells #[.int .i64 m.se, .int .i64 m.nu, .int .i64 ak] 115)).heap.size := e; rw [World.size_alloc] at e; exact .inr (by show wr.heap.size ≤ g9; omega))))
        have hx9 : Mx w9 P m := ((hgrow9.block P (by show P < (wr.alloc _).heap.size; rw [World.size_alloc]; exact Nat.lt_succ_of_lt (lt_of_block HX.out)) (fun e => HXN.out e.symm)).trans (Below.heap_alloc wr (.cells #[.int .i64 m.se, .int .i64 m.nu, .int .i64 ak] 115) _ (lt_of_block HX.out))).trans HX.out
        have hj9 : w9.heap[A.a]? = some (.cells (jC A j) 67 (0, 0)) := ((hgrow9.block A.a (by show A.a < (wr.alloc _).heap.size; rw [World.size_alloc]; exact Nat.lt_succ_of_lt HM.out.lt) (fun e => by obtain ⟨cs, hcs⟩ := own_blk HM.out.rd e.symm; exact blk_ne hcs HM.out.hj (by decide) rfl)).trans (Below.heap_alloc wr (.cells #[.int .i64 m.se, .int .i64 m.nu, .int .i64 ak] 115) _ HM.out.lt)).trans HM.out.hj
        have y5 : w9.cell? ⟨A.a, 6, none⟩ = some A.vd := by simp [World.cell?, hj9, jC]
        have yz : w9.frozen? ⟨A.a, 6, none⟩ = false := by simp [World.frozen?, hj9]
        have HX9 := hide hx9
        clear hown9 hgrow9 hat9 hO9 hx9 hj9 hlt9
        refine hK.out _ _ (HX9.out) (fun hHeld => ?_)
        clear hK K
        try simp only [Act.put]
        try simp only [List.getElem_toArray]
        try simp only [List.getElem_cons_succ]
        try simp only [List.getElem_cons_zero]
        try simp only [List.setIfInBounds_toArray]
        try simp only [List.set_cons_succ, List.set_cons_zero]
        refine wpAnyH_take (i := 13) (v := .pointer (some ⟨A.a, 0, none⟩)) rfl (by kernel_rfl) (by kernel_rfl) (by kernel_rfl) (fun _ _ _ h => h) (Or.inl ⟨by kernel_rfl, fun w1 hSw => by clear hHeld; obtain ⟨k1, k2⟩ := HCe.out _ hSw; go_simp⟩) hHeld ?_
        try simp only [Act.put]
        try simp only [List.getElem_toArray]
        try simp only [List.getElem_cons_succ]
        try simp only [List.getElem_cons_zero]
        try simp only [List.setIfInBounds_toArray]
        try simp only [List.set_cons_succ, List.set_cons_zero]
        refine wpAnyH_take (i := 14) (v := .pointer (some ⟨A.a, 6, none⟩)) rfl (by kernel_rfl) (by kernel_rfl) (by kernel_rfl) (fun _ _ _ h => h) (Or.inl ⟨by kernel_rfl, fun w1 hSw => by clear hHeld; obtain ⟨k1, k2⟩ := HCe.out _ hSw; go_simp⟩) hHeld ?_
        try simp only [Act.put]
        try simp only [List.getElem_toArray]
        try simp only [List.getElem_cons_succ]
        try simp only [List.getElem_cons_zero]
        try simp only [List.setIfInBounds_toArray]
        try simp only [List.set_cons_succ, List.set_cons_zero]
        refine wpAnyH_ready (rs := [15]) (by kernel_rfl) (by simp) ?_
        refine AllReadyH.cons rfl (fun K hK => ?_) AllReadyH.nil
        go_simp
        refine hK.out _ _ ((Below.heap_setCell _ _ _ P HXA.out).trans HX9.out) (fun hHeld => ?_)
        clear hK K
        try simp only [Act.put]
        try simp only [List.getElem_toArray]
        try simp only [List.getElem_cons_succ]
        try simp only [List.getElem_cons_zero]
        try simp only [List.setIfInBounds_toArray]
        try simp only [List.set_cons_succ, List.set_cons_zero]
        refine wpAnyH_done (by kernel_rfl) ?_ _
        have HF := HN
        clear hHeld
        go_wp2_with fail
        go_ret
        exact ⟨rfl, _, by rfl, HF.out.1, HJ.out.trans HF.out.2⟩
end
end Go.Proofs.Ytonoogiadgjodaa
