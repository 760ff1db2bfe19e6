import Derived.Test.YtepondcflkledaaGreatMgAV
import Derived.Deep.DeepCutAuto

section
namespace Go.Proofs.YtepondcflkledaaGreat.S
set_option maxRecDepth 20000
open Go.RowKit
open Rc (Ch)
open Q (Rr rr0 nrow fnd grE grL exE exL seE seL exJ seJ hix gb rowR grt xp stl Qm Ft Mv sbE sbJ sbL submit_any grant_any expire_any settle_any qfind_any)

section
variable {O : Nat → Prop} {base : Nat} {w : World} {kb qb : Nat} {v : Value} {T : Nat → Value} {m : Int} {s : Sx} {c : Ch} {t : Value}
theorem tx_own2 {w : World} {base n : Nat} {t : Value} {l : List ByteArray} (h : w.ownsRow base 9 1 t n (tcs l)) : Tx w t l := by
  obtain rfl : n = l.length := by have := h.1; rw [tcs_len] at this; omega
  exact tx_own h
theorem ls_below {q : Option Addr} {k cq : Nat} {w1 w2 : World} (h : Kp O base w1 kb qb v T m s ∧ Below base w w1 ∧ w1.heap[w.heap.size]? = some (.cells #[.int .i64 c.k, .int .i64 c.n, .int .i64 c.jo, .int .i64 c.ba, .int .i64 c.sl, .int .i64 c.li, .int .i64 c.rc, .int .u64 (c.rb : Int), .string c.pr, .slice q k cq] 78 (0, 0))) (hb : Below w1.heap.size w1 w2) : Kp O base w2 kb qb v T m s ∧ Below base w w2 ∧ w2.heap[w.heap.size]? = some (.cells #[.int .i64 c.k, .int .i64 c.n, .int .i64 c.jo, .int .i64 c.ba, .int .i64 c.sl, .int .i64 c.li, .int .i64 c.rc, .int .u64 (c.rb : Int), .string c.pr, .slice q k cq] 78 (0, 0)) :=
  ⟨h.1.below hb, h.2.1.trans (hb.mono (Nat.le_trans h.1.low (Nat.le_of_lt h.1.lt))), (hb.block _ (lt_of_block h.2.2)).trans h.2.2⟩
theorem ls_drewN {q : Option Addr} {k cq : Nat} {w1 : World} (h : Kp O base w1 kb qb v T m s ∧ Below base w w1 ∧ w1.heap[w.heap.size]? = some (.cells #[.int .i64 c.k, .int .i64 c.n, .int .i64 c.jo, .int .i64 c.ba, .int .i64 c.sl, .int .i64 c.li, .int .i64 c.rc, .int .u64 (c.rb : Int), .string c.pr, .slice q k cq] 78 (0, 0))) (n : Nat) : Kp O base (w1.drewN n) kb qb v T m s ∧ Below base w (w1.drewN n) ∧ (w1.drewN n).heap[w.heap.size]? = some (.cells #[.int .i64 c.k, .int .i64 c.n, .int .i64 c.jo, .int .i64 c.ba, .int .i64 c.sl, .int .i64 c.li, .int .i64 c.rc, .int .u64 (c.rb : Int), .string c.pr, .slice q k cq] 78 (0, 0)) :=
  ⟨h.1.drewN n, below_drewN h.2.1 n, h.2.2⟩
theorem ls_drew {q : Option Addr} {k cq : Nat} {w1 : World} (h : Kp O base w1 kb qb v T m s ∧ Below base w w1 ∧ w1.heap[w.heap.size]? = some (.cells #[.int .i64 c.k, .int .i64 c.n, .int .i64 c.jo, .int .i64 c.ba, .int .i64 c.sl, .int .i64 c.li, .int .i64 c.rc, .int .u64 (c.rb : Int), .string c.pr, .slice q k cq] 78 (0, 0))) : Kp O base w1.drew kb qb v T m s ∧ Below base w w1.drew ∧ w1.drew.heap[w.heap.size]? = some (.cells #[.int .i64 c.k, .int .i64 c.n, .int .i64 c.jo, .int .i64 c.ba, .int .i64 c.sl, .int .i64 c.li, .int .i64 c.rc, .int .u64 (c.rb : Int), .string c.pr, .slice q k cq] 78 (0, 0)) :=
  ⟨h.1.drew, h.2.1.drew, h.2.2⟩
theorem ls_set {q : Option Addr} {k cq : Nat} {w1 : World} (h : Kp O base w1 kb qb v T m s ∧ Below base w w1 ∧ w1.heap[w.heap.size]? = some (.cells #[.int .i64 c.k, .int .i64 c.n, .int .i64 c.jo, .int .i64 c.ba, .int .i64 c.sl, .int .i64 c.li, .int .i64 c.rc, .int .u64 (c.rb : Int), .string c.pr, .slice q k cq] 78 (0, 0))) (F : Rr) {X : Nat} (hX : w.heap.size < X ∧ base ≤ X ∧ X ≠ kb ∧ ¬ Ft qb v X ∧ ∀ i, i < 8 → (T i).ownBlock ≠ some X) : Kp O base (Q.set8 w1 X F) kb qb v T m s ∧ Below base w (Q.set8 w1 X F) ∧ (Q.set8 w1 X F).heap[w.heap.size]? = some (.cells #[.int .i64 c.k, .int .i64 c.n, .int .i64 c.jo, .int .i64 c.ba, .int .i64 c.sl, .int .i64 c.li, .int .i64 c.rc, .int .u64 (c.rb : Int), .string c.pr, .slice q k cq] 78 (0, 0)) := by
  refine ⟨h.1.keep (by rw [Q.set8_size]; exact Nat.le_refl _) fun g hg => Q.set8_other _ _ _ _ ?_, Q.set8_below h.2.1 X hX.2.1 F, (Q.set8_other _ _ _ _ (by omega)).trans h.2.2⟩
  rintro rfl
  rcases hg with e | e | ⟨i, hi, e⟩
  · exact hX.2.2.1 e
  · exact hX.2.2.2.1 e
  · exact hX.2.2.2.2 i hi e
set_option maxHeartbeats 2000000 in
set_option maxRecDepth 20000 in
theorem d_lengthen (h : Kp O base w kb qb v T m s) (hW : Wf m s) (hO : ∀ g, base ≤ g → O g) {w0 : World} (hT : Tx w0 t c.tx) (hB0 : Below base w0 w) (hb0 : w0.heap.size ≤ base) (hc : Rc.check c = 0) (hk : c.k = 4) :
    Calls Tryz.prog 99 #[.pointer (some ⟨kb, 0, none⟩), .agg (chC c t)] w (TP O base m s c kb qb w) := by
  have hm := may_T ((Rc.check_iff c).1 hc) hk
  have HO := hide (one_4 (m := m) (s := s) hc hk)
  have hlow := h.low
  have hlt := h.lt
  obtain ⟨q, cq, rfl, -, -⟩ := tx_src hT
  have HTx : Hid (∀ V, Below base w V → Tx V (.slice q c.tx.length cq) c.tx) := hide fun V hV => hT.below (hB0.trans hV) hb0
  clear hB0 hb0
  have HL := hide hm
  generalize hkk : c.tx.length = k at *
  have HKk := hide hkk
  have hk8 : k ≤ 8 := by have := hm.1; omega
  have hk1 : 1 ≤ k := by have := hm.1; omega
  have H1 := h.below (below_alloc w (.cells (chC c (.slice q k cq)) 78))
  have hsz := World.size_alloc w (.cells (chC c (.slice q k cq)) 78)
  have hSW : Kp O base (w.alloc (.cells (chC c (.slice q k cq)) 78)).drew kb qb v T m s ∧ Below base w (w.alloc (.cells (chC c (.slice q k cq)) 78)).drew ∧ (w.alloc (.cells (chC c (.slice q k cq)) 78)).drew.heap[w.heap.size]? = some (.cells (chC c (.slice q k cq)) 78 (0, 0)) := ⟨H1.drew, ((Below.refl _ w).alloc (by omega) _).drew, heap_alloc_new w _⟩
  have HXN : Hid (∀ X, (w.alloc (.cells (chC c (.slice q k cq)) 78)).heap.size ≤ X → Hid (w.heap.size < X ∧ base ≤ X ∧ X ≠ kb ∧ ¬ Ft qb v X ∧ ∀ i, i < 8 → (T i).ownBlock ≠ some X)) := hide fun X hX => hide ⟨by omega, by omega, by omega, fun hf => by have := (h.q.ftlt X hf).2; omega, fun i hi e => by have := h.tb i hi X e; omega⟩
  simp only [chC] at hSW HXN
  have HSW := hide hSW
  have HQ : Hid (∀ V : World, Kp O base V kb qb v T m s → Calls Tryz.prog 49 #[.pointer (some ⟨qb, 0, none⟩), .int .i64 c.ba] V fun e w' => e = .returned (.tuple #[(fnd c.ba s.L).val, .bool (!decide (fnd c.ba s.L = rr0))]) ∧ Below V.heap.size V w') := hide fun V hV => qfind_any hV.q hW.ok.len c.ba
  have HFi : Hid (fnd c.ba s.L ≠ rr0 → ∃ i : Nat, i < 8 ∧ (fnd c.ba s.L).job = (i : Int) + 1 ∧ jx (fnd c.ba s.L).job = i) := hide fun h0 => by
    obtain ⟨i, hi, _, _, _, h4, h5⟩ := fnd_in hW.ok h0
    have := hW.ok.len
    exact ⟨i, by omega, h5, h4⟩
  have HPP := hide hW.pp
  have hP := hW.len
  generalize fnd c.ba s.L = F at *
  obtain ⟨D, hD⟩ : ∃ D, (!decide (F = rr0)) = D := ⟨_, rfl⟩
  rw [hD] at HQ
  have HD := hide hD
  have HCe : Hid (∀ w' : World, (fun w' => Kp O base w' kb qb v T m s ∧ Below base w w' ∧ w'.heap[w.heap.size]? = some (.cells #[.int .i64 c.k, .int .i64 c.n, .int .i64 c.jo, .int .i64 c.ba, .int .i64 c.sl, .int .i64 c.li, .int .i64 c.rc, .int .u64 (c.rb : Int), .string c.pr, .slice q k cq] 78 (0, 0))) w' → w'.cell? ⟨kb, 0, none⟩ = some (.pointer (some ⟨qb, 0, none⟩)) ∧ w'.cell? ⟨w.heap.size, 3, none⟩ = some (.int .i64 c.ba)) := hide fun w' hw => ⟨hw.1.c0, by simp [World.cell?, hw.2.2]⟩
  have HOO := hide hO
  clear h H1 hSW hc hk hW hD hm hT hO hsz hkk
  go_enter Tryz.func99, Tryz.ntmps99
  simp only [chC]
  go_upto_region 1 with fail
  generalize w.alloc _ = W at *
  go_cut [5, 6] (fun p u wc => ∃ X, p = .pointer (some ⟨X, 0, none⟩) ∧ u = .bool D ∧ Hid (Q.Bx wc X F) ∧ Hid (Kp O base wc kb qb v T m s ∧ Below base w wc ∧ wc.heap[w.heap.size]? = some (.cells #[.int .i64 c.k, .int .i64 c.n, .int .i64 c.jo, .int .i64 c.ba, .int .i64 c.sl, .int .i64 c.li, .int .i64 c.rc, .int .u64 (c.rb : Int), .string c.pr, .slice q k cq] 78 (0, 0))))
  case first =>
    refine wp_region_held_drew (S := fun w' => Kp O base w' kb qb v T m s ∧ Below base w w' ∧ w'.heap[w.heap.size]? = some (.cells #[.int .i64 c.k, .int .i64 c.n, .int .i64 c.jo, .int .i64 c.ba, .int .i64 c.sl, .int .i64 c.li, .int .i64 c.rc, .int .u64 (c.rb : Int), .string c.pr, .slice q k cq] 78 (0, 0))) (by kernel_rfl) (HSW.out) (fun hHeld => ?_)
    refine wpAnyH_take (i := 0) (v := .pointer (some ⟨kb, 0, none⟩)) rfl (by kernel_rfl) (by kernel_rfl) (by kernel_rfl) (fun _ _ _ h => h) (Or.inl ⟨by kernel_rfl, fun w1 hSw => by clear hHeld; obtain ⟨k0, k3⟩ := HCe.out _ hSw; go_simp⟩) hHeld ?_
    try simp only [Act.put]
    try simp only [List.getElem_toArray]
    try simp only [List.getElem_cons_succ]
    try simp only [List.getElem_cons_zero]
    try simp only [List.setIfInBounds_toArray]
    try simp only [List.set_cons_succ, List.set_cons_zero]
    refine wpAnyH_take (i := 1) (v := .pointer (some ⟨kb, 0, none⟩)) rfl (by kernel_rfl) (by kernel_rfl) (by kernel_rfl) (fun _ _ _ h => h) (Or.inl ⟨by kernel_rfl, fun w1 hSw => by clear hHeld; obtain ⟨k0, k3⟩ := HCe.out _ hSw; go_simp⟩) hHeld ?_
    try simp only [Act.put]
    try simp only [List.getElem_toArray]
    try simp only [List.getElem_cons_succ]
    try simp only [List.getElem_cons_zero]
    try simp only [List.setIfInBounds_toArray]
    try simp only [List.set_cons_succ, List.set_cons_zero]
    refine wpAnyH_take (i := 2) (v := .pointer (some ⟨kb, 0, none⟩)) rfl (by kernel_rfl) (by kernel_rfl) (by kernel_rfl) (fun _ _ _ h => h) (Or.inl ⟨by kernel_rfl, fun w1 hSw => by clear hHeld; obtain ⟨k0, k3⟩ := HCe.out _ hSw; go_simp⟩) hHeld ?_
    try simp only [Act.put]
    try simp only [List.getElem_toArray]
    try simp only [List.getElem_cons_succ]
    try simp only [List.getElem_cons_zero]
    try simp only [List.setIfInBounds_toArray]
    try simp only [List.set_cons_succ, List.set_cons_zero]
    refine wpAnyH_take (i := 3) (v := .pointer (some ⟨qb, 0, none⟩)) rfl (by kernel_rfl) (by kernel_rfl) (by kernel_rfl) (fun _ _ _ h => h) (Or.inl ⟨by kernel_rfl, fun w1 hSw => by clear hHeld; obtain ⟨k0, k3⟩ := HCe.out _ hSw; go_simp⟩) hHeld ?_
    try simp only [Act.put]
    try simp only [List.getElem_toArray]
    try simp only [List.getElem_cons_succ]
    try simp only [List.getElem_cons_zero]
    try simp only [List.setIfInBounds_toArray]
    try simp only [List.set_cons_succ, List.set_cons_zero]
    refine wpAnyH_take (i := 4) (v := .pointer (some ⟨w.heap.size, 3, none⟩)) rfl (by kernel_rfl) (by kernel_rfl) (by kernel_rfl) (fun _ _ _ h => h) (Or.inl ⟨by kernel_rfl, fun w1 hSw => by clear hHeld; obtain ⟨k0, k3⟩ := HCe.out _ hSw; go_simp⟩) hHeld ?_
    try simp only [Act.put]
    try simp only [List.getElem_toArray]
    try simp only [List.getElem_cons_succ]
    try simp only [List.getElem_cons_zero]
    try simp only [List.setIfInBounds_toArray]
    try simp only [List.set_cons_succ, List.set_cons_zero]
    refine wpAnyH_take (i := 5) (v := .int .i64 c.ba) rfl (by kernel_rfl) (by kernel_rfl) (by kernel_rfl) (fun _ _ _ h => h) (Or.inl ⟨by kernel_rfl, fun w1 hSw => by clear hHeld; obtain ⟨k0, k3⟩ := HCe.out _ hSw; go_simp⟩) hHeld ?_
    try simp only [Act.put]
    try simp only [List.getElem_toArray]
    try simp only [List.getElem_cons_succ]
    try simp only [List.getElem_cons_zero]
    try simp only [List.setIfInBounds_toArray]
    try simp only [List.set_cons_succ, List.set_cons_zero]
    refine wpAnyH_ready (rs := [6, 10]) (by kernel_rfl) (by simp) ?_
    refine AllReadyH.cons rfl (fun K hK => ?_) (AllReadyH.cons rfl (fun K hK => ?_) AllReadyH.nil)
    · go_simp
      refine (HQ.out _ hHeld.1).mono ?_
      rintro e V1 ⟨rfl, hb⟩
      have HS0 := hide (ls_below hHeld hb)
      have HXn := HXN.out _ hb.size
      clear hb
      refine hK.out _ _ (HS0.out) (fun hHeld => ?_)
      clear hK K
      try simp only [Act.put]
      try simp only [List.getElem_toArray]
      try simp only [List.getElem_cons_succ]
      try simp only [List.getElem_cons_zero]
      try simp only [List.setIfInBounds_toArray]
      try simp only [List.set_cons_succ, List.set_cons_zero]
      refine wpAnyH_take (i := 7) (v := .tuple #[.agg #[.int .i64 F.job, .int .i64 F.st, .int .i64 F.att, .int .i64 F.bdg, .int .i64 F.node, .int .i64 F.life, .int .i64 F.code, .int .u64 F.bits], .bool D]) rfl (by kernel_rfl) (by kernel_rfl) (by kernel_rfl) (fun _ _ _ h => h) (Or.inl ⟨by kernel_rfl, fun w1 hSw => by clear hHeld; obtain ⟨k0, k3⟩ := HCe.out _ hSw; go_simp⟩) hHeld ?_
      try simp only [Act.put]
      try simp only [List.getElem_toArray]
      try simp only [List.getElem_cons_succ]
      try simp only [List.getElem_cons_zero]
      try simp only [List.setIfInBounds_toArray]
      try simp only [List.set_cons_succ, List.set_cons_zero]
      refine wpAnyH_take (i := 8) (v := .agg #[.int .i64 F.job, .int .i64 F.st, .int .i64 F.att, .int .i64 F.bdg, .int .i64 F.node, .int .i64 F.life, .int .i64 F.code, .int .u64 F.bits]) rfl (by kernel_rfl) (by kernel_rfl) (by kernel_rfl) (fun _ _ _ h => h) (Or.inl ⟨by kernel_rfl, fun w1 hSw => by clear hHeld; obtain ⟨k0, k3⟩ := HCe.out _ hSw; go_simp⟩) hHeld ?_
      try simp only [Act.put]
      try simp only [List.getElem_toArray]
      try simp only [List.getElem_cons_succ]
      try simp only [List.getElem_cons_zero]
      try simp only [List.setIfInBounds_toArray]
      try simp only [List.set_cons_succ, List.set_cons_zero]
      refine wpAnyH_take (i := 9) (v := .bool D) rfl (by kernel_rfl) (by kernel_rfl) (by kernel_rfl) (fun _ _ _ h => h) (Or.inl ⟨by kernel_rfl, fun w1 hSw => by clear hHeld; obtain ⟨k0, k3⟩ := HCe.out _ hSw; go_simp⟩) hHeld ?_
      try simp only [Act.put]
      try simp only [List.getElem_toArray]
      try simp only [List.getElem_cons_succ]
      try simp only [List.getElem_cons_zero]
      try simp only [List.setIfInBounds_toArray]
      try simp only [List.set_cons_succ, List.set_cons_zero]
      refine wpAnyH_ready (rs := [10]) (by kernel_rfl) (by simp) ?_
      refine AllReadyH.cons rfl (fun K hK => ?_) AllReadyH.nil
      go_simp
      have HS1 := hide (ls_below hHeld (below_alloc _ (.cells #[.int .i64 0, .int .i64 0, .int .i64 0, .int .i64 0, .int .i64 0, .int .i64 0, .int .i64 0, .int .u64 0] 82)))
      have HX : Hid (Q.Bx (V1.alloc (.cells #[.int .i64 0, .int .i64 0, .int .i64 0, .int .i64 0, .int .i64 0, .int .i64 0, .int .i64 0, .int .u64 0] 82)) V1.heap.size rr0) := hide (heap_alloc_new _ _)
      refine hK.out _ _ (HS1.out) (fun hHeld => ?_)
      clear hK K
      try simp only [Act.put]
      try simp only [List.getElem_toArray]
      try simp only [List.getElem_cons_succ]
      try simp only [List.getElem_cons_zero]
      try simp only [List.setIfInBounds_toArray]
      try simp only [List.set_cons_succ, List.set_cons_zero]
      refine wpAnyH_ready (rs := [11]) (by kernel_rfl) (by simp) ?_
      refine AllReadyH.cons rfl (fun K hK => ?_) AllReadyH.nil
      try generalize V1.alloc _ = VA at *
      obtain ⟨d0, d1, d2, d3, d4, d5, d6, d7⟩ := HX.out.cells
      have z0 := HX.out.z 0
      have z1 := HX.out.z 1
      have z2 := HX.out.z 2
      have z3 := HX.out.z 3
      have z4 := HX.out.z 4
      have z5 := HX.out.z 5
      have z6 := HX.out.z 6
      have z7 := HX.out.z 7
      have hXl := HX.out.lt
      have HXF := hide (HX.out.put F)
      have HSF := hide (ls_set HS1.out F HXn.out)
      go_simp
      refine hK.out _ _ (HSF.out) (fun hHeld => ?_)
      clear hK K
      try simp only [Act.put]
      try simp only [List.getElem_toArray]
      try simp only [List.getElem_cons_succ]
      try simp only [List.getElem_cons_zero]
      try simp only [List.setIfInBounds_toArray]
      try simp only [List.set_cons_succ, List.set_cons_zero]
      refine wpAnyH_take (i := 12) (v := .bool D) rfl (by kernel_rfl) (by kernel_rfl) (by kernel_rfl) (fun _ _ _ h => h) (Or.inl ⟨by kernel_rfl, fun w1 hSw => by clear hHeld; obtain ⟨k0, k3⟩ := HCe.out _ hSw; go_simp⟩) hHeld ?_
      try simp only [Act.put]
      try simp only [List.getElem_toArray]
      try simp only [List.getElem_cons_succ]
      try simp only [List.getElem_cons_zero]
      try simp only [List.setIfInBounds_toArray]
      try simp only [List.set_cons_succ, List.set_cons_zero]
      refine wpAnyH_done (by kernel_rfl) ?_ _
      go_wp2_with fail
      go_meet
      case rel => exact ⟨_, rfl, rfl, HXF, HSF⟩
    · go_simp
      have HS0 := hide (ls_below hHeld (below_alloc _ (.cells #[.int .i64 0, .int .i64 0, .int .i64 0, .int .i64 0, .int .i64 0, .int .i64 0, .int .i64 0, .int .u64 0] 82)))
      have HX0 : Hid (Q.Bx (W.drew.alloc (.cells #[.int .i64 0, .int .i64 0, .int .i64 0, .int .i64 0, .int .i64 0, .int .i64 0, .int .i64 0, .int .u64 0] 82)) W.heap.size rr0) := hide (heap_alloc_new _ _)
      refine hK.out _ _ (HS0.out) (fun hHeld => ?_)
      clear hK K
      try simp only [Act.put]
      try simp only [List.getElem_toArray]
      try simp only [List.getElem_cons_succ]
      try simp only [List.getElem_cons_zero]
      try simp only [List.setIfInBounds_toArray]
      try simp only [List.set_cons_succ, List.set_cons_zero]
      refine wpAnyH_ready (rs := [6]) (by kernel_rfl) (by simp) ?_
      refine AllReadyH.cons rfl (fun K hK => ?_) AllReadyH.nil
      go_simp
      refine (HQ.out _ hHeld.1).mono ?_
      rintro e V1 ⟨rfl, hb⟩
      have HS1 := hide (ls_below hHeld hb)
      have HX : Hid (Q.Bx V1 W.heap.size rr0) := hide ((hb.block _ HX0.out.lt).trans HX0.out)
      have HXn := HXN.out _ (Nat.le_refl _)
      clear hb
      refine hK.out _ _ (HS1.out) (fun hHeld => ?_)
      clear hK K
      try simp only [Act.put]
      try simp only [List.getElem_toArray]
      try simp only [List.getElem_cons_succ]
      try simp only [List.getElem_cons_zero]
      try simp only [List.setIfInBounds_toArray]
      try simp only [List.set_cons_succ, List.set_cons_zero]
      refine wpAnyH_take (i := 7) (v := .tuple #[.agg #[.int .i64 F.job, .int .i64 F.st, .int .i64 F.att, .int .i64 F.bdg, .int .i64 F.node, .int .i64 F.life, .int .i64 F.code, .int .u64 F.bits], .bool D]) rfl (by kernel_rfl) (by kernel_rfl) (by kernel_rfl) (fun _ _ _ h => h) (Or.inl ⟨by kernel_rfl, fun w1 hSw => by clear hHeld; obtain ⟨k0, k3⟩ := HCe.out _ hSw; go_simp⟩) hHeld ?_
      try simp only [Act.put]
      try simp only [List.getElem_toArray]
      try simp only [List.getElem_cons_succ]
      try simp only [List.getElem_cons_zero]
      try simp only [List.setIfInBounds_toArray]
      try simp only [List.set_cons_succ, List.set_cons_zero]
      refine wpAnyH_take (i := 8) (v := .agg #[.int .i64 F.job, .int .i64 F.st, .int .i64 F.att, .int .i64 F.bdg, .int .i64 F.node, .int .i64 F.life, .int .i64 F.code, .int .u64 F.bits]) rfl (by kernel_rfl) (by kernel_rfl) (by kernel_rfl) (fun _ _ _ h => h) (Or.inl ⟨by kernel_rfl, fun w1 hSw => by clear hHeld; obtain ⟨k0, k3⟩ := HCe.out _ hSw; go_simp⟩) hHeld ?_
      try simp only [Act.put]
      try simp only [List.getElem_toArray]
      try simp only [List.getElem_cons_succ]
      try simp only [List.getElem_cons_zero]
      try simp only [List.setIfInBounds_toArray]
      try simp only [List.set_cons_succ, List.set_cons_zero]
      refine wpAnyH_take (i := 9) (v := .bool D) rfl (by kernel_rfl) (by kernel_rfl) (by kernel_rfl) (fun _ _ _ h => h) (Or.inl ⟨by kernel_rfl, fun w1 hSw => by clear hHeld; obtain ⟨k0, k3⟩ := HCe.out _ hSw; go_simp⟩) hHeld ?_
      try simp only [Act.put]
      try simp only [List.getElem_toArray]
      try simp only [List.getElem_cons_succ]
      try simp only [List.getElem_cons_zero]
      try simp only [List.setIfInBounds_toArray]
      try simp only [List.set_cons_succ, List.set_cons_zero]
      refine wpAnyH_ready (rs := [11]) (by kernel_rfl) (by simp) ?_
      refine AllReadyH.cons rfl (fun K hK => ?_) AllReadyH.nil
      try generalize V1.alloc _ = VA at *
      obtain ⟨d0, d1, d2, d3, d4, d5, d6, d7⟩ := HX.out.cells
      have z0 := HX.out.z 0
      have z1 := HX.out.z 1
      have z2 := HX.out.z 2
      have z3 := HX.out.z 3
      have z4 := HX.out.z 4
      have z5 := HX.out.z 5
      have z6 := HX.out.z 6
      have z7 := HX.out.z 7
      have hXl := HX.out.lt
      have HXF := hide (HX.out.put F)
      have HSF := hide (ls_set HS1.out F HXn.out)
      go_simp
      refine hK.out _ _ (HSF.out) (fun hHeld => ?_)
      clear hK K
      try simp only [Act.put]
      try simp only [List.getElem_toArray]
      try simp only [List.getElem_cons_succ]
      try simp only [List.getElem_cons_zero]
      try simp only [List.setIfInBounds_toArray]
      try simp only [List.set_cons_succ, List.set_cons_zero]
      refine wpAnyH_take (i := 12) (v := .bool D) rfl (by kernel_rfl) (by kernel_rfl) (by kernel_rfl) (fun _ _ _ h => h) (Or.inl ⟨by kernel_rfl, fun w1 hSw => by clear hHeld; obtain ⟨k0, k3⟩ := HCe.out _ hSw; go_simp⟩) hHeld ?_
      try simp only [Act.put]
      try simp only [List.getElem_toArray]
      try simp only [List.getElem_cons_succ]
      try simp only [List.getElem_cons_zero]
      try simp only [List.setIfInBounds_toArray]
      try simp only [List.set_cons_succ, List.set_cons_zero]
      refine wpAnyH_done (by kernel_rfl) ?_ _
      go_wp2_with fail
      go_meet
      case rel => exact ⟨_, rfl, rfl, HXF, HSF⟩
  case rest =>
    obtain ⟨X, rfl, rfl, HX, HS⟩ := hcut
    clear HSW HXN HCe HQ
    have d0 := HX.out.cells.1
    have d1 := HX.out.cells.2.1
    cases D with
    | false =>
      rw [if_pos (.inl (.inl (by have := HD.out; simpa using this)))] at HO
      go_wp2_with fail
      go_ret
      exact .no HO.out rfl HS.out.2.1
    | true =>
      have hF0 : F ≠ rr0 := by have := HD.out; simpa using this
      by_cases h2 : F.st = 2
      · obtain ⟨i, hi8, hj, hji⟩ := HFi.out hF0
        rw [hji] at HO
        rw [h2] at d1
        rw [hj] at d0
        obtain ⟨p, cap, hTi, -, -⟩ := tx_src (HS.out.1.lg i hi8)
        have HTi := hide (HS.out.1.lg i hi8)
        have hpp := HPP.out i
        have hcl := HS.out.1.cl hi8
        rw [hTi] at hcl
        have hct : wc.cell? ⟨w.heap.size, 9, none⟩ = some (.slice q k cq) := by simp [World.cell?, HS.out.2.2]
        generalize hn : (s.pa i).lg.length = n at *
        have hn32 : n ≤ 32 := hpp.2.1
        have HF0 := hide hF0
        clear hF0 HD HX hpp HFi
        have e1 : (i : Int) + 1 - 1 = (i : Int) := by omega
        go_wp2_with fail
        go_quiet (fail)
        have HS4 := hide (ls_drewN HS.out nq)
        have HT4 : Hid (Tx (wc.drewN nq) (T i) (s.pa i).lg) := hide (HS4.out.1.lg i hi8)
        have hcl4 : (wc.drewN nq).cell? ⟨kb, 2 + i * 2 + 1, none⟩ = some (.slice p n cap) := hcl
        have hct4 : (wc.drewN nq).cell? ⟨w.heap.size, 9, none⟩ = some (.slice q k cq) := hct
        clear HS hcl hct d0 d1
        generalize wc.drewN nq = W4 at *
        by_cases hnk : 32 < n + k
        · rw [if_pos (.inr hnk)] at HO
          have hnk' : (32 : Int) < (n : Int) + (k : Int) := by omega
          go_wp2_with fail
          go_quiet (fail)
          go_wp2_with fail
          go_ret
          exact .no HO.out rfl (below_drewN HS4.out.2.1 _)
        · rw [if_neg (fun x => x.elim (fun y => y.elim (fun z => HF0.out z) (fun z => z h2)) hnk)] at HO
          have hnk' : ¬ ((32 : Int) < (n : Int) + (k : Int)) := by omega
          go_wp2_with fail
          go_quiet (fail)
          have HS7 := hide (ls_drewN HS4.out nq)
          have HT7 : Hid (Tx (W4.drewN nq) (T i) (s.pa i).lg) := hide (HS7.out.1.lg i hi8)
          have hcl : (W4.drewN nq).cell? ⟨kb, 2 + i * 2 + 1, none⟩ = some (.slice p n cap) := hcl4
          have hct : (W4.drewN nq).cell? ⟨w.heap.size, 9, none⟩ = some (.slice q k cq) := hct4
          clear HS4 HT4 hcl4 hct4
          generalize W4.drewN nq = W7 at *
          have HS8 := hide (ls_drew (ls_below HS7.out (below_alloc W7 (.cells #[.slice p n cap, .slice q k cq] 52))))
          have hg8 : (W7.alloc (.cells #[.slice p n cap, .slice q k cq] 52)).drew.heap[W7.heap.size]? = some (.cells #[.slice p n cap, .slice q k cq] 52 (0, 0)) := heap_alloc_new W7 _
          have HT8 := hide (HS8.out.1.lg i hi8)
          rw [hTi] at HT8
          have HCC := hide (s_concat (g := W7.heap.size) HT8.out (HTx.out _ HS8.out.2.1) (by rw [hn]; omega) (by rw [HKk.out]; omega) (by rw [HKk.out]; omega) (by rw [World.cell?, hg8]; rfl) (by rw [World.cell?, hg8]; rfl))
          have hs8 : (W7.alloc (.cells #[.slice p n cap, .slice q k cq] 52)).drew.heap.size = W7.heap.size + 1 := World.size_alloc W7 _
          have hb8 := HS8.out.1.low
          have hl8 := HS8.out.1.lt
          clear hg8 HT7 HS7 HT8
          go_upto_region 7 with fail
          go_region_with (go_at_call 130; refine HCC.out.mono ?_; rintro e V9 ⟨t7, rfl, ho, hb⟩; obtain ⟨p7, c7, rfl⟩ := own_slice ho; generalize ((s.pa i).lg ++ c.tx).length = N7 at ho ⊢; have HS9 := hide (ls_below HS8.out hb); have k9 : V9.cell? ⟨kb, 2 + i * 2 + 1, none⟩ = some (.slice p n cap) := (by have := HS9.out.1.cl hi8; rw [hTi] at this; exact this); have z9 := HS9.out.1.z (2 + i * 2 + 1); have hl9 := HS9.out.1.lt; have HO9 := hide ho; have HB9 := hide hb; clear ho hb)
          all_goals
            go_wp2_with fail
            go_ret
            refine .yes _ _ _ HO.out rfl ((HS9.out.1.log hP hi8 (tx_own2 HO9.out) (fun g hg => (HO9.out.lt g hg).2) (fun g hg => ?_))) (HS9.out.2.1.setCell hlow _)
            have hg1 := (HO9.out.lt g hg).1
            rw [hs8] at hg1
            have hall := HS8.out.1.all_lt g
            rw [hs8] at hall hl8
            exact ⟨by omega, fun hf => by have := hall (.inr (.inl hf)); omega, HOO.out g (by omega)⟩
      · rw [if_pos (.inl (.inr h2))] at HO
        have b2 : decide (F.st = 2) = false := decide_eq_false h2
        go_wp2_with fail
        go_ret
        exact .no HO.out rfl HS.out.2.1
end
end Go.Proofs.YtepondcflkledaaGreat.S
end
