import Derived.Test.YtjalmmdihkcboaaMgAZ
import Derived.Test.YtjalmmdihkcboaaMgAX

section
namespace Go.Proofs.Ytjalmmdihkcboaa.S
open Go.RowKit
open Rc (Ch)
open Q (Rr rr0 Qm Ft Mv)

set_option maxHeartbeats 1000000 in
set_option maxRecDepth 20000 in
theorem grown_any {w : World} {r q : Rr} {P P' : Pp} {t u : Value} (hG : Gr r P q P') (ht : Tx w t P.lg) (hu : Tx w u P'.lg) (hl : P.lg.length ≤ 32) (hl' : P'.lg.length ≤ 32) (hcap : ∀ p n c, u = .slice p n c → n ≤ c) :
    Calls Try.prog 10 #[.agg (plC r P.pr t), .agg (plC q P'.pr u)] w fun e w' => e = .returned (.bool true) ∧ Below w.heap.size w w' := by
  obtain ⟨qj, qs, qa, qb, qn, ql, qc, qx⟩ := q
  have hjob : qj = r.job := hG.job
  subst hjob
  have hpr := hG.pr
  have hbd : r.bdg ≤ qb := hG.bdg
  have HDn := hide hG.done
  have HAn := hide hG.anew
  have HMo := hide hG.more
  obtain ⟨p1, c1, rfl, -, -⟩ := tx_src ht
  obtain ⟨p2, c2, rfl, -, -⟩ := tx_src hu
  have hcp := hcap _ _ _ rfl
  have HTx := hide (And.intro ht hu)
  rw [hpr]
  obtain ⟨pr, hpr2⟩ : ∃ pr, P.pr = pr := ⟨_, rfl⟩
  rw [hpr2]
  obtain ⟨n1, hn1⟩ : ∃ n1, P.lg.length = n1 := ⟨_, rfl⟩
  obtain ⟨n2, hn2⟩ : ∃ n2, P'.lg.length = n2 := ⟨_, rfl⟩
  rw [hn1] at hl HTx ⊢
  rw [hn2] at hl' hcp HTx ⊢
  have HN := hide (And.intro hn1 hn2)
  have hs1 := World.size_alloc w (.cells #[.int .i64 r.job, .int .i64 r.st, .int .i64 r.att, .int .i64 r.bdg, .int .i64 r.node, .int .i64 r.life, .int .i64 r.code, .int .u64 r.bits, .string pr, .slice p1 n1 c1] 44)
  have hb1 := below_alloc w (.cells #[.int .i64 r.job, .int .i64 r.st, .int .i64 r.att, .int .i64 r.bdg, .int .i64 r.node, .int .i64 r.life, .int .i64 r.code, .int .u64 r.bits, .string pr, .slice p1 n1 c1] 44)
  have ha1 := heap_alloc_new w (.cells #[.int .i64 r.job, .int .i64 r.st, .int .i64 r.att, .int .i64 r.bdg, .int .i64 r.node, .int .i64 r.life, .int .i64 r.code, .int .u64 r.bits, .string pr, .slice p1 n1 c1] 44)
  have hb2 := below_alloc (w.alloc (.cells #[.int .i64 r.job, .int .i64 r.st, .int .i64 r.att, .int .i64 r.bdg, .int .i64 r.node, .int .i64 r.life, .int .i64 r.code, .int .u64 r.bits, .string pr, .slice p1 n1 c1] 44)) (.cells #[.int .i64 r.job, .int .i64 qs, .int .i64 qa, .int .i64 qb, .int .i64 qn, .int .i64 ql, .int .i64 qc, .int .u64 qx, .string pr, .slice p2 n2 c2] 44)
  have ha2 := heap_alloc_new (w.alloc (.cells #[.int .i64 r.job, .int .i64 r.st, .int .i64 r.att, .int .i64 r.bdg, .int .i64 r.node, .int .i64 r.life, .int .i64 r.code, .int .u64 r.bits, .string pr, .slice p1 n1 c1] 44)) (.cells #[.int .i64 r.job, .int .i64 qs, .int .i64 qa, .int .i64 qb, .int .i64 qn, .int .i64 ql, .int .i64 qc, .int .u64 qx, .string pr, .slice p2 n2 c2] 44)
  rw [hs1] at ha2
  have HP1 := hide ((hb2.block _ (lt_of_block ha1)).trans ha1)
  have HP2 := hide ha2
  have HB : Hid (Below w.heap.size w ((w.alloc (.cells #[.int .i64 r.job, .int .i64 r.st, .int .i64 r.att, .int .i64 r.bdg, .int .i64 r.node, .int .i64 r.life, .int .i64 r.code, .int .u64 r.bits, .string pr, .slice p1 n1 c1] 44)).alloc (.cells #[.int .i64 r.job, .int .i64 qs, .int .i64 qa, .int .i64 qb, .int .i64 qn, .int .i64 ql, .int .i64 qc, .int .u64 qx, .string pr, .slice p2 n2 c2] 44))) := hide (hb1.alloc hb1.size _)
  have HSt := hide (fun V => settled_any V r)
  have hbn : ¬ (qb < r.bdg) := by omega
  clear hG ht hu hcap hpr hpr2 hn1 hn2 hs1 hb1 ha1 hb2 ha2 hbd
  go_enter Try.func10, Try.ntmps10
  simp only [plC]
  go_wp2_with fail
  generalize (w.alloc _).alloc _ = W at *
  refine (HSt.out _).mono ?_
  rintro e w3 ⟨rfl, hb3⟩
  have hP1 := (hb3.block _ (lt_of_block HP1.out)).trans HP1.out
  have hP2 := (hb3.block _ (lt_of_block HP2.out)).trans HP2.out
  have HB3 := hide (HB.out.trans (hb3.mono HB.out.size))
  have HQ1 := hide hP1
  have HQ2 := hide hP2
  have a0 : w3.cell? ⟨w.heap.size, 0, none⟩ = some (.int .i64 r.job) := by simp [World.cell?, hP1]
  have a1 : w3.cell? ⟨w.heap.size, 1, none⟩ = some (.int .i64 r.st) := by simp [World.cell?, hP1]
  have a2 : w3.cell? ⟨w.heap.size, 2, none⟩ = some (.int .i64 r.att) := by simp [World.cell?, hP1]
  have a3 : w3.cell? ⟨w.heap.size, 3, none⟩ = some (.int .i64 r.bdg) := by simp [World.cell?, hP1]
  have a4 : w3.cell? ⟨w.heap.size, 4, none⟩ = some (.int .i64 r.node) := by simp [World.cell?, hP1]
  have a5 : w3.cell? ⟨w.heap.size, 5, none⟩ = some (.int .i64 r.life) := by simp [World.cell?, hP1]
  have a6 : w3.cell? ⟨w.heap.size, 6, none⟩ = some (.int .i64 r.code) := by simp [World.cell?, hP1]
  have a7 : w3.cell? ⟨w.heap.size, 7, none⟩ = some (.int .u64 r.bits) := by simp [World.cell?, hP1]
  have a8 : w3.cell? ⟨w.heap.size, 8, none⟩ = some (.string pr) := by simp [World.cell?, hP1]
  have a9 : w3.cell? ⟨w.heap.size, 9, none⟩ = some (.slice p1 n1 c1) := by simp [World.cell?, hP1]
  have d0 : w3.cell? ⟨w.heap.size + 1, 0, none⟩ = some (.int .i64 r.job) := by simp [World.cell?, hP2]
  have d1 : w3.cell? ⟨w.heap.size + 1, 1, none⟩ = some (.int .i64 qs) := by simp [World.cell?, hP2]
  have d2 : w3.cell? ⟨w.heap.size + 1, 2, none⟩ = some (.int .i64 qa) := by simp [World.cell?, hP2]
  have d3 : w3.cell? ⟨w.heap.size + 1, 3, none⟩ = some (.int .i64 qb) := by simp [World.cell?, hP2]
  have d4 : w3.cell? ⟨w.heap.size + 1, 4, none⟩ = some (.int .i64 qn) := by simp [World.cell?, hP2]
  have d5 : w3.cell? ⟨w.heap.size + 1, 5, none⟩ = some (.int .i64 ql) := by simp [World.cell?, hP2]
  have d6 : w3.cell? ⟨w.heap.size + 1, 6, none⟩ = some (.int .i64 qc) := by simp [World.cell?, hP2]
  have d7 : w3.cell? ⟨w.heap.size + 1, 7, none⟩ = some (.int .u64 qx) := by simp [World.cell?, hP2]
  have d8 : w3.cell? ⟨w.heap.size + 1, 8, none⟩ = some (.string pr) := by simp [World.cell?, hP2]
  have d9 : w3.cell? ⟨w.heap.size + 1, 9, none⟩ = some (.slice p2 n2 c2) := by simp [World.cell?, hP2]
  clear hP1 hP2 hb3 HB HP1 HP2 HSt
  by_cases hs : r.st = 3 ∨ r.st = 4
  · rw [decide_eq_true hs]
    obtain ⟨hqr, hlg⟩ := HDn.out hs
    have e1 : qs = r.st := congrArg Rr.st hqr
    have e2 : qa = r.att := congrArg Rr.att hqr
    have e3 : qb = r.bdg := congrArg Rr.bdg hqr
    have e4 : qn = r.node := congrArg Rr.node hqr
    have e5 : ql = r.life := congrArg Rr.life hqr
    have e6 : qc = r.code := congrArg Rr.code hqr
    have e7 : qx = r.bits := congrArg Rr.bits hqr
    subst e1 e2 e3 e4 e5 e6 e7
    have heq : ∀ W : World, (binOp .eql 41 (.agg #[.int .i64 r.job, .int .i64 r.st, .int .i64 r.att, .int .i64 r.bdg, .int .i64 r.node, .int .i64 r.life, .int .i64 r.code, .int .u64 r.bits]) (.agg #[.int .i64 r.job, .int .i64 r.st, .int .i64 r.att, .int .i64 r.bdg, .int .i64 r.node, .int .i64 r.life, .int .i64 r.code, .int .u64 r.bits])).run Try.prog W = .ok (.bool true) W := fun W => by
      have := Q.eqlR_any r r W
      rw [decide_eq_true rfl] at this
      exact this
    have HT := hide (texts_alike (HTx.out.1.below HB3.out (Nat.le_refl _)) (by have := HTx.out.2.below HB3.out (Nat.le_refl _); rw [hlg] at this; exact this) (by rw [HN.out.1]; omega))
    clear hlg HDn HAn HMo HTx HQ1 HQ2
    go_wp2_with fail
    refine HT.out.mono ?_
    rintro e w4 ⟨rfl, hb4⟩
    have HB4 := hide (HB3.out.trans (hb4.mono HB3.out.size))
    clear hb4 HB3 HT
    go_wp2_with fail
    go_ret
    exact ⟨rfl, HB4.out⟩
  rw [decide_eq_false hs]
  by_cases hb : r.bdg = qb
  rotate_left
  · have hz : n2 = 0 := by rw [← HN.out.2, HAn.out hb]; rfl
    subst hz
    have b1 : decide (r.bdg = qb) = false := decide_eq_false hb
    clear HDn HAn HMo HTx HQ1 HQ2
    go_wp2_with fail
    go_ret
    exact ⟨rfl, HB3.out⟩
  obtain ⟨kk, hkk⟩ := HMo.out hb
  have hn12 : n1 ≤ n2 := by rw [← HN.out.1, ← HN.out.2, hkk, List.length_append]; omega
  have hmn : ¬ n2 < n1 := by omega
  have hi12 : (n1 : Int) ≤ (n2 : Int) := by omega
  have hi1c : (n1 : Int) ≤ (c2 : Int) := by omega
  have HT : Hid (∀ V, Below w.heap.size w V → Calls Try.prog 21 #[.slice p1 n1 c1, .slice p2 n1 c2] V fun e w' => e = .returned (.bool true) ∧ Below V.heap.size V w') := hide fun V hV => by
    have h1 := HTx.out.1.below hV (Nat.le_refl _)
    have h2 := HTx.out.2
    rw [hkk] at h2
    have h3 := (tx_cut h2).below hV (Nat.le_refl _)
    rw [HN.out.1] at h3
    exact texts_alike h1 h3 (by rw [HN.out.1]; omega)
  have HP1 := HQ1
  have HP2 := HQ2
  have HB := HB3
  clear HDn HAn HMo HTx hkk
  have HCe : Hid (∀ w' : World, (fun w' => Below w.heap.size w w' ∧ w'.heap[w.heap.size]? = some (.cells #[.int .i64 r.job, .int .i64 r.st, .int .i64 r.att, .int .i64 r.bdg, .int .i64 r.node, .int .i64 r.life, .int .i64 r.code, .int .u64 r.bits, .string pr, .slice p1 n1 c1] 44 (0, 0)) ∧ w'.heap[w.heap.size + 1]? = some (.cells #[.int .i64 r.job, .int .i64 qs, .int .i64 qa, .int .i64 qb, .int .i64 qn, .int .i64 ql, .int .i64 qc, .int .u64 qx, .string pr, .slice p2 n2 c2] 44 (0, 0))) w' → w'.cell? ⟨w.heap.size, 9, none⟩ = some (.slice p1 n1 c1) ∧ w'.cell? ⟨w.heap.size + 1, 9, none⟩ = some (.slice p2 n2 c2)) := hide fun w' hw => ⟨by simp [World.cell?, hw.2.1], by simp [World.cell?, hw.2.2]⟩
  go_upto_region 7 with fail
  refine wp_region_held_drew (S := fun w' => Below w.heap.size w w' ∧ w'.heap[w.heap.size]? = some (.cells #[.int .i64 r.job, .int .i64 r.st, .int .i64 r.att, .int .i64 r.bdg, .int .i64 r.node, .int .i64 r.life, .int .i64 r.code, .int .u64 r.bits, .string pr, .slice p1 n1 c1] 44 (0, 0)) ∧ w'.heap[w.heap.size + 1]? = some (.cells #[.int .i64 r.job, .int .i64 qs, .int .i64 qa, .int .i64 qb, .int .i64 qn, .int .i64 ql, .int .i64 qc, .int .u64 qx, .string pr, .slice p2 n2 c2] 44 (0, 0))) (by kernel_rfl) (⟨HB.out.drew, HP1.out, HP2.out⟩) (fun hHeld => ?_)
  refine wpAnyH_take (i := 0) (v := .pointer (some ⟨w.heap.size, 9, none⟩)) rfl (by kernel_rfl) (by kernel_rfl) (by kernel_rfl) (fun _ _ _ h => h) (Or.inl ⟨by kernel_rfl, fun w1 hSw => by clear hHeld; obtain ⟨k0, k1⟩ := HCe.out _ hSw; go_simp⟩) hHeld ?_
  try simp only [Act.put]
  try simp only [List.getElem_toArray]
  try simp only [List.getElem_cons_succ]
  try simp only [List.getElem_cons_zero]
  try simp only [List.setIfInBounds_toArray]
  try simp only [List.set_cons_succ, List.set_cons_zero]
  refine wpAnyH_take (i := 1) (v := .slice p1 n1 c1) rfl (by kernel_rfl) (by kernel_rfl) (by kernel_rfl) (fun _ _ _ h => h) (Or.inl ⟨by kernel_rfl, fun w1 hSw => by clear hHeld; obtain ⟨k0, k1⟩ := HCe.out _ hSw; go_simp⟩) hHeld ?_
  try simp only [Act.put]
  try simp only [List.getElem_toArray]
  try simp only [List.getElem_cons_succ]
  try simp only [List.getElem_cons_zero]
  try simp only [List.setIfInBounds_toArray]
  try simp only [List.set_cons_succ, List.set_cons_zero]
  refine wpAnyH_take (i := 2) (v := .int .i64 (n1 : Int)) rfl (by kernel_rfl) (by kernel_rfl) (by kernel_rfl) (fun _ _ _ h => h) (Or.inl ⟨by kernel_rfl, fun w1 hSw => by clear hHeld; obtain ⟨k0, k1⟩ := HCe.out _ hSw; go_simp⟩) hHeld ?_
  try simp only [Act.put]
  try simp only [List.getElem_toArray]
  try simp only [List.getElem_cons_succ]
  try simp only [List.getElem_cons_zero]
  try simp only [List.setIfInBounds_toArray]
  try simp only [List.set_cons_succ, List.set_cons_zero]
  refine wpAnyH_take (i := 3) (v := .pointer (some ⟨w.heap.size + 1, 9, none⟩)) rfl (by kernel_rfl) (by kernel_rfl) (by kernel_rfl) (fun _ _ _ h => h) (Or.inl ⟨by kernel_rfl, fun w1 hSw => by clear hHeld; obtain ⟨k0, k1⟩ := HCe.out _ hSw; go_simp⟩) hHeld ?_
  try simp only [Act.put]
  try simp only [List.getElem_toArray]
  try simp only [List.getElem_cons_succ]
  try simp only [List.getElem_cons_zero]
  try simp only [List.setIfInBounds_toArray]
  try simp only [List.set_cons_succ, List.set_cons_zero]
  refine wpAnyH_take (i := 4) (v := .slice p2 n2 c2) rfl (by kernel_rfl) (by kernel_rfl) (by kernel_rfl) (fun _ _ _ h => h) (Or.inl ⟨by kernel_rfl, fun w1 hSw => by clear hHeld; obtain ⟨k0, k1⟩ := HCe.out _ hSw; go_simp⟩) hHeld ?_
  try simp only [Act.put]
  try simp only [List.getElem_toArray]
  try simp only [List.getElem_cons_succ]
  try simp only [List.getElem_cons_zero]
  try simp only [List.setIfInBounds_toArray]
  try simp only [List.set_cons_succ, List.set_cons_zero]
  refine wpAnyH_take (i := 5) (v := .int .i64 (n2 : Int)) rfl (by kernel_rfl) (by kernel_rfl) (by kernel_rfl) (fun _ _ _ h => h) (Or.inl ⟨by kernel_rfl, fun w1 hSw => by clear hHeld; obtain ⟨k0, k1⟩ := HCe.out _ hSw; go_simp⟩) hHeld ?_
  try simp only [Act.put]
  try simp only [List.getElem_toArray]
  try simp only [List.getElem_cons_succ]
  try simp only [List.getElem_cons_zero]
  try simp only [List.setIfInBounds_toArray]
  try simp only [List.set_cons_succ, List.set_cons_zero]
  refine wpAnyH_take (i := 6) (v := .bool true) rfl (by kernel_rfl) (by kernel_rfl) (by kernel_rfl) (fun _ _ _ h => h) (Or.inl ⟨by kernel_rfl, fun w1 hSw => by clear hHeld; obtain ⟨k0, k1⟩ := HCe.out _ hSw; go_simp⟩) hHeld ?_
  try simp only [Act.put]
  try simp only [List.getElem_toArray]
  try simp only [List.getElem_cons_succ]
  try simp only [List.getElem_cons_zero]
  try simp only [List.setIfInBounds_toArray]
  try simp only [List.set_cons_succ, List.set_cons_zero]
  refine wpAnyH_take (i := 7) (v := .bool true) rfl (by kernel_rfl) (by kernel_rfl) (by kernel_rfl) (fun _ _ _ h => h) (Or.inl ⟨by kernel_rfl, fun w1 hSw => by clear hHeld; obtain ⟨k0, k1⟩ := HCe.out _ hSw; go_simp⟩) hHeld ?_
  try simp only [Act.put]
  try simp only [List.getElem_toArray]
  try simp only [List.getElem_cons_succ]
  try simp only [List.getElem_cons_zero]
  try simp only [List.setIfInBounds_toArray]
  try simp only [List.set_cons_succ, List.set_cons_zero]
  refine wpAnyH_take (i := 8) (v := .pointer (some ⟨w.heap.size, 9, none⟩)) rfl (by kernel_rfl) (by kernel_rfl) (by kernel_rfl) (fun _ _ _ h => h) (Or.inl ⟨by kernel_rfl, fun w1 hSw => by clear hHeld; obtain ⟨k0, k1⟩ := HCe.out _ hSw; go_simp⟩) hHeld ?_
  try simp only [Act.put]
  try simp only [List.getElem_toArray]
  try simp only [List.getElem_cons_succ]
  try simp only [List.getElem_cons_zero]
  try simp only [List.setIfInBounds_toArray]
  try simp only [List.set_cons_succ, List.set_cons_zero]
  refine wpAnyH_take (i := 9) (v := .slice p1 n1 c1) rfl (by kernel_rfl) (by kernel_rfl) (by kernel_rfl) (fun _ _ _ h => h) (Or.inl ⟨by kernel_rfl, fun w1 hSw => by clear hHeld; obtain ⟨k0, k1⟩ := HCe.out _ hSw; go_simp⟩) hHeld ?_
  try simp only [Act.put]
  try simp only [List.getElem_toArray]
  try simp only [List.getElem_cons_succ]
  try simp only [List.getElem_cons_zero]
  try simp only [List.setIfInBounds_toArray]
  try simp only [List.set_cons_succ, List.set_cons_zero]
  refine wpAnyH_take (i := 10) (v := .pointer (some ⟨w.heap.size + 1, 9, none⟩)) rfl (by kernel_rfl) (by kernel_rfl) (by kernel_rfl) (fun _ _ _ h => h) (Or.inl ⟨by kernel_rfl, fun w1 hSw => by clear hHeld; obtain ⟨k0, k1⟩ := HCe.out _ hSw; go_simp⟩) hHeld ?_
  try simp only [Act.put]
  try simp only [List.getElem_toArray]
  try simp only [List.getElem_cons_succ]
  try simp only [List.getElem_cons_zero]
  try simp only [List.setIfInBounds_toArray]
  try simp only [List.set_cons_succ, List.set_cons_zero]
  refine wpAnyH_take (i := 11) (v := .slice p2 n2 c2) rfl (by kernel_rfl) (by kernel_rfl) (by kernel_rfl) (fun _ _ _ h => h) (Or.inl ⟨by kernel_rfl, fun w1 hSw => by clear hHeld; obtain ⟨k0, k1⟩ := HCe.out _ hSw; go_simp⟩) hHeld ?_
  try simp only [Act.put]
  try simp only [List.getElem_toArray]
  try simp only [List.getElem_cons_succ]
  try simp only [List.getElem_cons_zero]
  try simp only [List.setIfInBounds_toArray]
  try simp only [List.set_cons_succ, List.set_cons_zero]
  refine wpAnyH_take (i := 12) (v := .pointer (some ⟨w.heap.size, 9, none⟩)) rfl (by kernel_rfl) (by kernel_rfl) (by kernel_rfl) (fun _ _ _ h => h) (Or.inl ⟨by kernel_rfl, fun w1 hSw => by clear hHeld; obtain ⟨k0, k1⟩ := HCe.out _ hSw; go_simp⟩) hHeld ?_
  try simp only [Act.put]
  try simp only [List.getElem_toArray]
  try simp only [List.getElem_cons_succ]
  try simp only [List.getElem_cons_zero]
  try simp only [List.setIfInBounds_toArray]
  try simp only [List.set_cons_succ, List.set_cons_zero]
  refine wpAnyH_take (i := 13) (v := .slice p1 n1 c1) rfl (by kernel_rfl) (by kernel_rfl) (by kernel_rfl) (fun _ _ _ h => h) (Or.inl ⟨by kernel_rfl, fun w1 hSw => by clear hHeld; obtain ⟨k0, k1⟩ := HCe.out _ hSw; go_simp⟩) hHeld ?_
  try simp only [Act.put]
  try simp only [List.getElem_toArray]
  try simp only [List.getElem_cons_succ]
  try simp only [List.getElem_cons_zero]
  try simp only [List.setIfInBounds_toArray]
  try simp only [List.set_cons_succ, List.set_cons_zero]
  refine wpAnyH_take (i := 14) (v := .int .i64 (n1 : Int)) rfl (by kernel_rfl) (by kernel_rfl) (by kernel_rfl) (fun _ _ _ h => h) (Or.inl ⟨by kernel_rfl, fun w1 hSw => by clear hHeld; obtain ⟨k0, k1⟩ := HCe.out _ hSw; go_simp⟩) hHeld ?_
  try simp only [Act.put]
  try simp only [List.getElem_toArray]
  try simp only [List.getElem_cons_succ]
  try simp only [List.getElem_cons_zero]
  try simp only [List.setIfInBounds_toArray]
  try simp only [List.set_cons_succ, List.set_cons_zero]
  refine wpAnyH_take (i := 15) (v := .pointer (some ⟨w.heap.size + 1, 9, none⟩)) rfl (by kernel_rfl) (by kernel_rfl) (by kernel_rfl) (fun _ _ _ h => h) (Or.inl ⟨by kernel_rfl, fun w1 hSw => by clear hHeld; obtain ⟨k0, k1⟩ := HCe.out _ hSw; go_simp⟩) hHeld ?_
  try simp only [Act.put]
  try simp only [List.getElem_toArray]
  try simp only [List.getElem_cons_succ]
  try simp only [List.getElem_cons_zero]
  try simp only [List.setIfInBounds_toArray]
  try simp only [List.set_cons_succ, List.set_cons_zero]
  refine wpAnyH_take (i := 16) (v := .slice p2 n2 c2) rfl (by kernel_rfl) (by kernel_rfl) (by kernel_rfl) (fun _ _ _ h => h) (Or.inl ⟨by kernel_rfl, fun w1 hSw => by clear hHeld; obtain ⟨k0, k1⟩ := HCe.out _ hSw; go_simp⟩) hHeld ?_
  try simp only [Act.put]
  try simp only [List.getElem_toArray]
  try simp only [List.getElem_cons_succ]
  try simp only [List.getElem_cons_zero]
  try simp only [List.setIfInBounds_toArray]
  try simp only [List.set_cons_succ, List.set_cons_zero]
  refine wpAnyH_take (i := 17) (v := .int .i64 (n2 : Int)) rfl (by kernel_rfl) (by kernel_rfl) (by kernel_rfl) (fun _ _ _ h => h) (Or.inl ⟨by kernel_rfl, fun w1 hSw => by clear hHeld; obtain ⟨k0, k1⟩ := HCe.out _ hSw; go_simp⟩) hHeld ?_
  try simp only [Act.put]
  try simp only [List.getElem_toArray]
  try simp only [List.getElem_cons_succ]
  try simp only [List.getElem_cons_zero]
  try simp only [List.setIfInBounds_toArray]
  try simp only [List.set_cons_succ, List.set_cons_zero]
  refine wpAnyH_take (i := 18) (v := .int .i64 (n1 : Int)) rfl (by kernel_rfl) (by kernel_rfl) (by kernel_rfl) (fun _ _ _ h => h) (Or.inl ⟨by kernel_rfl, fun w1 hSw => by clear hHeld; obtain ⟨k0, k1⟩ := HCe.out _ hSw; go_simp⟩) hHeld ?_
  try simp only [Act.put]
  try simp only [List.getElem_toArray]
  try simp only [List.getElem_cons_succ]
  try simp only [List.getElem_cons_zero]
  try simp only [List.setIfInBounds_toArray]
  try simp only [List.set_cons_succ, List.set_cons_zero]
  refine wpAnyH_take (i := 19) (v := .slice p2 n1 c2) rfl (by kernel_rfl) (by kernel_rfl) (by kernel_rfl) (fun _ _ _ h => h) (Or.inl ⟨by kernel_rfl, fun w1 hSw => by clear hHeld; obtain ⟨k0, k1⟩ := HCe.out _ hSw; go_simp⟩) hHeld ?_
  try simp only [Act.put]
  try simp only [List.getElem_toArray]
  try simp only [List.getElem_cons_succ]
  try simp only [List.getElem_cons_zero]
  try simp only [List.setIfInBounds_toArray]
  try simp only [List.set_cons_succ, List.set_cons_zero]
  refine wpAnyH_ready (rs := [20]) (by kernel_rfl) (by simp) ?_
  refine AllReadyH.cons rfl (fun K hK => ?_) AllReadyH.nil
  go_simp
  refine (HT.out _ hHeld.1).mono ?_
  rintro e V1 ⟨rfl, hb⟩
  have HS1 := hide (⟨hHeld.1.trans (hb.mono hHeld.1.size), (hb.block _ (lt_of_block hHeld.2.1)).trans hHeld.2.1, (hb.block _ (lt_of_block hHeld.2.2)).trans hHeld.2.2⟩ : _ ∧ _ ∧ _)
  clear hb
  refine hK.out _ _ (HS1.out) (fun hHeld => ?_)
  clear hK K
  try simp only [Act.put]
  try simp only [List.getElem_toArray]
  try simp only [List.getElem_cons_succ]
  try simp only [List.getElem_cons_zero]
  try simp only [List.setIfInBounds_toArray]
  try simp only [List.set_cons_succ, List.set_cons_zero]
  refine wpAnyH_take (i := 21) (v := .bool true) rfl (by kernel_rfl) (by kernel_rfl) (by kernel_rfl) (fun _ _ _ h => h) (Or.inl ⟨by kernel_rfl, fun w1 hSw => by clear hHeld; obtain ⟨k0, k1⟩ := HCe.out _ hSw; go_simp⟩) hHeld ?_
  try simp only [Act.put]
  try simp only [List.getElem_toArray]
  try simp only [List.getElem_cons_succ]
  try simp only [List.getElem_cons_zero]
  try simp only [List.setIfInBounds_toArray]
  try simp only [List.set_cons_succ, List.set_cons_zero]
  refine wpAnyH_take (i := 22) (v := .bool true) rfl (by kernel_rfl) (by kernel_rfl) (by kernel_rfl) (fun _ _ _ h => h) (Or.inl ⟨by kernel_rfl, fun w1 hSw => by clear hHeld; obtain ⟨k0, k1⟩ := HCe.out _ hSw; go_simp⟩) hHeld ?_
  try simp only [Act.put]
  try simp only [List.getElem_toArray]
  try simp only [List.getElem_cons_succ]
  try simp only [List.getElem_cons_zero]
  try simp only [List.setIfInBounds_toArray]
  try simp only [List.set_cons_succ, List.set_cons_zero]
  refine wpAnyH_done (by kernel_rfl) ?_ _
  have HBf := hide HS1.out.1
  clear HS1 hHeld HT HCe HP1 HP2 HB
  go_wp2_with fail
  go_ret
  exact ⟨rfl, HBf.out⟩
end Go.Proofs.Ytjalmmdihkcboaa.S
end

section
namespace Go.Proofs.Ytjalmmdihkcboaa.S
open Go.RowKit
open Rc (Ch)
open Q (Rr rr0 Qm Ft Mv fnd hd qfind_any)

theorem results_pb {fn : Func} {p u : Tmp} (h : fn.results = #[.cell p 44, .tmp u]) (tmps : Array Value) (w : World) (g : Nat) (cs : Array Value) (hp : tmps.getD p undef = .pointer (some ⟨g, 0, none⟩)) (hg : w.heap[g]? = some (.cells cs 44 (0, 0))) (hc : cs.size = 10) :
    (results fn tmps).run Try.prog w = .ok (.tuple #[.agg cs, tmps.getD u undef]) w := by
  have he := run_loadVar_row (P := Try.prog) w g 44 44 cs (0, 0) _ hg Try.underlying44 rfl (by rw [hc]; kernel_rfl)
  rw [results_cell_tmp h, hp]
  simp [asAddr, he, Result.andThen]
/-- what Find answers -/
inductive FP (s : Sx) (g : Int) (w : World) (e : Ending) (w' : World) : Prop
  | no : fnd g s.L = rr0 → e = .returned (.tuple #[.agg #[.int .i64 0, .int .i64 0, .int .i64 0, .int .i64 0, .int .i64 0, .int .i64 0, .int .i64 0, .int .u64 0, .string ⟨#[]⟩, .slice none 0 0], .bool false]) → Below w.heap.size w w' → FP s g w e w'
  | yes (i : Nat) (t : Value) : fnd g s.L ≠ rr0 → i < s.L.length → fnd g s.L = s.L.getD i rr0 → e = .returned (.tuple #[.agg (plC (fnd g s.L) (s.pa i).pr t), .bool true]) → w'.ownsRow w.heap.size 9 1 t (s.pa i).lg.length (tcs (s.pa i).lg) → Below w.heap.size w w' → FP s g w e w'
set_option maxHeartbeats 300000 in
set_option maxRecDepth 20000 in
theorem find_any {N : Nat → Prop} {w : World} {b : Nat} {m : Int} {s : Sx} (h : Sd N w b m s) (hW : Wf m s) (g : Int) :
    Calls Try.prog 14 #[.pointer (some ⟨b, 0, none⟩), .int .i64 g] w (FP s g w) := by
  obtain ⟨kb, qb, v, T, hb, hK, hnk, hnf⟩ := h.ex
  have hbw := lt_of_block hb
  have hba := below_alloc w (.cells #[.int .i64 0, .int .i64 0, .int .i64 0, .int .i64 0, .int .i64 0, .int .i64 0, .int .i64 0, .int .u64 0, .string ⟨#[]⟩, .slice none 0 0] 44)
  have hs0 := World.size_alloc w (.cells #[.int .i64 0, .int .i64 0, .int .i64 0, .int .i64 0, .int .i64 0, .int .i64 0, .int .i64 0, .int .u64 0, .string ⟨#[]⟩, .slice none 0 0] 44)
  have hR0 := heap_alloc_new w (.cells #[.int .i64 0, .int .i64 0, .int .i64 0, .int .i64 0, .int .i64 0, .int .i64 0, .int .i64 0, .int .u64 0, .string ⟨#[]⟩, .slice none 0 0] 44)
  have HQ := hide (qfind_any (hK.below hba).q hW.ok.len g)
  have c0 : (w.alloc (.cells #[.int .i64 0, .int .i64 0, .int .i64 0, .int .i64 0, .int .i64 0, .int .i64 0, .int .i64 0, .int .u64 0, .string ⟨#[]⟩, .slice none 0 0] 44)).cell? ⟨b, 0, none⟩ = some (.pointer (some ⟨kb, 0, none⟩)) := Lib.cell?_alloc_some _ (by simp [World.cell?, hb])
  have c1 : (w.alloc (.cells #[.int .i64 0, .int .i64 0, .int .i64 0, .int .i64 0, .int .i64 0, .int .i64 0, .int .i64 0, .int .u64 0, .string ⟨#[]⟩, .slice none 0 0] 44)).cell? ⟨kb, 0, none⟩ = some (.pointer (some ⟨qb, 0, none⟩)) := Lib.cell?_alloc_some _ hK.c0
  have HK := hide (hK.below hba)
  have HBb := hide ((hba.block b hbw).trans hb)
  have HW := hide hW
  have HFi : Hid (fnd g s.L ≠ rr0 → ∃ i : Nat, i < s.L.length ∧ i < 8 ∧ fnd g s.L = s.L.getD i rr0 ∧ (fnd g s.L).job = (i : Int) + 1) := hide fun h0 => by
    obtain ⟨i, hi, e1, _, _, _, h5⟩ := fnd_in hW.ok h0
    have := hW.ok.len
    exact ⟨i, hi, by omega, by rw [e1, List.getD_eq_getElem?_getD, List.getElem?_eq_getElem hi]; rfl, h5⟩
  obtain ⟨r, hr⟩ : ∃ r, fnd g s.L = r := ⟨_, rfl⟩
  obtain ⟨D, hD⟩ : ∃ D, (!decide (r = rr0)) = D := ⟨_, rfl⟩
  rw [hr, hD] at HQ
  rw [hr] at HFi
  have HD := hide hD
  have HRr := hide hr
  clear h hK hnk hnf hb hW hr hD
  go_enter Try.func14, Try.ntmps14
  go_wp2_with fail
  have HB0 := hide hba
  have HR0 := hide hR0
  clear hba hR0
  generalize w.alloc _ = W at *
  refine HQ.out.mono ?_
  rintro e w1 ⟨rfl, hb1⟩
  have HK1 := hide (HK.out.below hb1)
  have HB1 := hide (HB0.out.trans (hb1.mono (by omega)))
  have HSb1 := hide ((hb1.block b (lt_of_block HBb.out)).trans HBb.out)
  have HR1' := hide ((hb1.block w.heap.size (lt_of_block HR0.out)).trans HR0.out)
  clear hb1 HQ HK HB0 HBb HR0 c0 c1
  have hsz1 := HB1.out.size
  have hRl1 := lt_of_block HR1'.out
  cases D with
  | false =>
    obtain ⟨q0, q1, q2, q3, q4, q5, q6, q7, q8, q9, z0, z1, z2, z3, z4, z5, z6, z7, z8, z9⟩ := pl_of HR1'.out
    have hr0 : r = rr0 := by have := HD.out; simpa using this
    have HRF0 := hide (pl_set HR1'.out (.int .i64 0) (.int .i64 0) (.int .i64 0) (.int .i64 0) (.int .i64 0) (.int .i64 0) (.int .i64 0) (.int .u64 0) (.string ⟨#[]⟩) (.slice none 0 0))
    have HBF0 := hide (pl_below HB1.out (Nat.le_refl _) (.int .i64 0) (.int .i64 0) (.int .i64 0) (.int .i64 0) (.int .i64 0) (.int .i64 0) (.int .i64 0) (.int .u64 0) (.string ⟨#[]⟩) (.slice none 0 0))
    have HRF := hide (((below_alloc _ (.cells #[.int .i64 r.job, .int .i64 r.st, .int .i64 r.att, .int .i64 r.bdg, .int .i64 r.node, .int .i64 r.life, .int .i64 r.code, .int .u64 r.bits] 41)).block _ (lt_of_block HRF0.out)).trans HRF0.out)
    have HBF := hide (HBF0.out.alloc HBF0.out.size (.cells #[.int .i64 r.job, .int .i64 r.st, .int .i64 r.att, .int .i64 r.bdg, .int .i64 r.node, .int .i64 r.life, .int .i64 r.code, .int .u64 r.bits] 41))
    have HR0 := hide hr0
    clear hr0 HK1 HSb1 HFi HW HRF0 HBF0
    go_wp2_with fail
    refine bodyPost_ret (results_pb rfl _ _ w.heap.size _ rfl HRF.out rfl) rfl ?_
    exact .no (HRr.out.trans HR0.out) rfl HBF.out
  | true =>
  have hr0 : r ≠ rr0 := by have := HD.out; simpa using this
  obtain ⟨i, hil, hi8, hgd, hjob⟩ := HFi.out hr0
  have hba := below_alloc w1 (.cells #[.int .i64 r.job, .int .i64 r.st, .int .i64 r.att, .int .i64 r.bdg, .int .i64 r.node, .int .i64 r.life, .int .i64 r.code, .int .u64 r.bits] 41)
  have HPl := hide (kplace_any (HK1.out.below hba).drew hi8 hjob (HW.out.pp i).2.1)
  have HSb := hide ((hba.block b (lt_of_block HSb1.out)).trans HSb1.out)
  have HSy0 := heap_alloc_new w1 (.cells #[.int .i64 r.job, .int .i64 r.st, .int .i64 r.att, .int .i64 r.bdg, .int .i64 r.node, .int .i64 r.life, .int .i64 r.code, .int .u64 r.bits] 41)
  obtain ⟨Y, hY⟩ : ∃ Y, w1.heap.size = Y := ⟨_, rfl⟩
  rw [hY] at HSy0
  have HSy := hide HSy0
  have HR := hide ((hba.block _ hRl1).trans HR1'.out)
  have HB : Hid (Below w.heap.size w (w1.alloc (.cells #[.int .i64 r.job, .int .i64 r.st, .int .i64 r.att, .int .i64 r.bdg, .int .i64 r.node, .int .i64 r.life, .int .i64 r.code, .int .u64 r.bits] 41))) := hide (HB1.out.alloc hsz1 _)
  have hYs : (w1.alloc (.cells #[.int .i64 r.job, .int .i64 r.st, .int .i64 r.att, .int .i64 r.bdg, .int .i64 r.node, .int .i64 r.life, .int .i64 r.code, .int .u64 r.bits] 41)).heap.size = Y + 1 := by rw [← hY]; exact World.size_alloc _ _
  have HX := hide (And.intro hr0 (And.intro hil hgd))
  obtain ⟨pr, hpr⟩ : ∃ pr, (s.pa i).pr = pr := ⟨_, rfl⟩
  have HPr := hide hpr
  rw [hpr] at HPl
  obtain ⟨n, hn⟩ : ∃ n, (s.pa i).lg.length = n := ⟨_, rfl⟩
  have HNl := hide hn
  rw [hn] at HPl
  rw [hY] at hRl1 hsz1
  clear HSy0 HSb1 HR1' HB1 HK1 HFi HW hba hr0 hil hgd hjob hpr hn
  go_upto_region 4 with fail
  generalize w1.alloc _ = W2 at *
  have hbl : b < W2.drew.heap.size := lt_of_block HSb.out
  have hYl : Y < W2.drew.heap.size := lt_of_block HSy.out
  have hRl : w.heap.size < W2.drew.heap.size := lt_of_block HR.out
  have hs2 : w.heap.size ≤ W2.drew.heap.size := HB.out.size
  have HCe : Hid (∀ w' : World, (fun w' => w'.heap[b]? = some (.cells #[.pointer (some ⟨kb, 0, none⟩)] 64 (0, 0)) ∧ w'.heap[Y]? = some (.cells #[.int .i64 r.job, .int .i64 r.st, .int .i64 r.att, .int .i64 r.bdg, .int .i64 r.node, .int .i64 r.life, .int .i64 r.code, .int .u64 r.bits] 41 (0, 0))) w' → w'.cell? ⟨b, 0, none⟩ = some (.pointer (some ⟨kb, 0, none⟩)) ∧ w'.cell? ⟨Y, 0, none⟩ = some (.int .i64 r.job) ∧ w'.cell? ⟨Y, 1, none⟩ = some (.int .i64 r.st) ∧ w'.cell? ⟨Y, 2, none⟩ = some (.int .i64 r.att) ∧ w'.cell? ⟨Y, 3, none⟩ = some (.int .i64 r.bdg) ∧ w'.cell? ⟨Y, 4, none⟩ = some (.int .i64 r.node) ∧ w'.cell? ⟨Y, 5, none⟩ = some (.int .i64 r.life) ∧ w'.cell? ⟨Y, 6, none⟩ = some (.int .i64 r.code) ∧ w'.cell? ⟨Y, 7, none⟩ = some (.int .u64 r.bits)) := hide fun w' hw => by
    obtain ⟨h1, h2⟩ := hw
    simp [World.cell?, h1, h2]
  refine wp_region_held_drew (S := fun w' => w'.heap[b]? = some (.cells #[.pointer (some ⟨kb, 0, none⟩)] 64 (0, 0)) ∧ w'.heap[Y]? = some (.cells #[.int .i64 r.job, .int .i64 r.st, .int .i64 r.att, .int .i64 r.bdg, .int .i64 r.node, .int .i64 r.life, .int .i64 r.code, .int .u64 r.bits] 41 (0, 0))) (by kernel_rfl) (⟨HSb.out, HSy.out⟩) (fun hHeld => ?_)
  refine wpAnyH_take (i := 0) (v := .pointer (some ⟨b, 0, none⟩)) rfl (by kernel_rfl) (by kernel_rfl) (by kernel_rfl) (fun _ _ _ h => h) (Or.inl ⟨by kernel_rfl, fun w1 hSw => by clear hHeld; obtain ⟨k0, k1, k2, k3, k4, k5, k6, k7, k8⟩ := HCe.out _ hSw; go_simp⟩) hHeld ?_
  try simp only [Act.put]
  try simp only [List.getElem_toArray]
  try simp only [List.getElem_cons_succ]
  try simp only [List.getElem_cons_zero]
  try simp only [List.setIfInBounds_toArray]
  try simp only [List.set_cons_succ, List.set_cons_zero]
  refine wpAnyH_take (i := 1) (v := .pointer (some ⟨b, 0, none⟩)) rfl (by kernel_rfl) (by kernel_rfl) (by kernel_rfl) (fun _ _ _ h => h) (Or.inl ⟨by kernel_rfl, fun w1 hSw => by clear hHeld; obtain ⟨k0, k1, k2, k3, k4, k5, k6, k7, k8⟩ := HCe.out _ hSw; go_simp⟩) hHeld ?_
  try simp only [Act.put]
  try simp only [List.getElem_toArray]
  try simp only [List.getElem_cons_succ]
  try simp only [List.getElem_cons_zero]
  try simp only [List.setIfInBounds_toArray]
  try simp only [List.set_cons_succ, List.set_cons_zero]
  refine wpAnyH_take (i := 2) (v := .pointer (some ⟨b, 0, none⟩)) rfl (by kernel_rfl) (by kernel_rfl) (by kernel_rfl) (fun _ _ _ h => h) (Or.inl ⟨by kernel_rfl, fun w1 hSw => by clear hHeld; obtain ⟨k0, k1, k2, k3, k4, k5, k6, k7, k8⟩ := HCe.out _ hSw; go_simp⟩) hHeld ?_
  try simp only [Act.put]
  try simp only [List.getElem_toArray]
  try simp only [List.getElem_cons_succ]
  try simp only [List.getElem_cons_zero]
  try simp only [List.setIfInBounds_toArray]
  try simp only [List.set_cons_succ, List.set_cons_zero]
  refine wpAnyH_take (i := 3) (v := .pointer (some ⟨kb, 0, none⟩)) rfl (by kernel_rfl) (by kernel_rfl) (by kernel_rfl) (fun _ _ _ h => h) (Or.inl ⟨by kernel_rfl, fun w1 hSw => by clear hHeld; obtain ⟨k0, k1, k2, k3, k4, k5, k6, k7, k8⟩ := HCe.out _ hSw; go_simp⟩) hHeld ?_
  try simp only [Act.put]
  try simp only [List.getElem_toArray]
  try simp only [List.getElem_cons_succ]
  try simp only [List.getElem_cons_zero]
  try simp only [List.setIfInBounds_toArray]
  try simp only [List.set_cons_succ, List.set_cons_zero]
  refine wpAnyH_take (i := 4) (v := .agg #[.int .i64 r.job, .int .i64 r.st, .int .i64 r.att, .int .i64 r.bdg, .int .i64 r.node, .int .i64 r.life, .int .i64 r.code, .int .u64 r.bits]) rfl (by kernel_rfl) (by kernel_rfl) (by kernel_rfl) (fun _ _ _ h => h) (Or.inl ⟨by kernel_rfl, fun w1 hSw => by clear hHeld; obtain ⟨k0, k1, k2, k3, k4, k5, k6, k7, k8⟩ := HCe.out _ hSw; go_simp⟩) hHeld ?_
  try simp only [Act.put]
  try simp only [List.getElem_toArray]
  try simp only [List.getElem_cons_succ]
  try simp only [List.getElem_cons_zero]
  try simp only [List.setIfInBounds_toArray]
  try simp only [List.set_cons_succ, List.set_cons_zero]
  refine wpAnyH_ready (rs := [5]) (by kernel_rfl) (by simp) ?_
  refine AllReadyH.cons rfl (fun K hK => ?_) AllReadyH.nil
  go_simp
  refine HPl.out.mono ?_
  rintro e V1 ⟨t7, rfl, ho, hb⟩
  have hn7 := own_slice ho
  obtain ⟨p7, c7, rfl⟩ := hn7
  have HO := hide ho
  have HB1 := hide (HB.out.drew.trans (hb.mono hs2))
  have HS1 := hide (⟨(hb.block _ hbl).trans HSb.out, (hb.block _ hYl).trans HSy.out⟩ : _ ∧ _)
  have HR1 := hide ((hb.block _ hRl).trans HR.out)
  clear ho hb
  simp only [plC]
  refine hK.out _ _ (HS1.out) (fun hHeld => ?_)
  clear hK K
  try simp only [Act.put]
  try simp only [List.getElem_toArray]
  try simp only [List.getElem_cons_succ]
  try simp only [List.getElem_cons_zero]
  try simp only [List.setIfInBounds_toArray]
  try simp only [List.set_cons_succ, List.set_cons_zero]
  refine wpAnyH_ready (rs := [6]) (by kernel_rfl) (by simp) ?_
  refine AllReadyH.cons rfl (fun K hK => ?_) AllReadyH.nil
  obtain ⟨q0, q1, q2, q3, q4, q5, q6, q7, q8, q9, z0, z1, z2, z3, z4, z5, z6, z7, z8, z9⟩ := pl_of HR1.out
  have hRl1 := lt_of_block HR1.out
  have HRF := hide (pl_set HR1.out (.int .i64 r.job) (.int .i64 r.st) (.int .i64 r.att) (.int .i64 r.bdg) (.int .i64 r.node) (.int .i64 r.life) (.int .i64 r.code) (.int .u64 r.bits) (.string pr) (.slice p7 n c7))
  have HSF := hide (⟨(pl_other V1 (B := w.heap.size) (g := b) (by omega) (.int .i64 r.job) (.int .i64 r.st) (.int .i64 r.att) (.int .i64 r.bdg) (.int .i64 r.node) (.int .i64 r.life) (.int .i64 r.code) (.int .u64 r.bits) (.string pr) (.slice p7 n c7)).trans HS1.out.1, (pl_other V1 (B := w.heap.size) (g := Y) (by omega) (.int .i64 r.job) (.int .i64 r.st) (.int .i64 r.att) (.int .i64 r.bdg) (.int .i64 r.node) (.int .i64 r.life) (.int .i64 r.code) (.int .u64 r.bits) (.string pr) (.slice p7 n c7)).trans HS1.out.2⟩ : _ ∧ _)
  have HBF := hide (pl_below HB1.out (Nat.le_refl _) (.int .i64 r.job) (.int .i64 r.st) (.int .i64 r.att) (.int .i64 r.bdg) (.int .i64 r.node) (.int .i64 r.life) (.int .i64 r.code) (.int .u64 r.bits) (.string pr) (.slice p7 n c7))
  go_simp
  refine hK.out _ _ (HSF.out) (fun hHeld => ?_)
  clear hK K
  try simp only [Act.put]
  try simp only [List.getElem_toArray]
  try simp only [List.getElem_cons_succ]
  try simp only [List.getElem_cons_zero]
  try simp only [List.setIfInBounds_toArray]
  try simp only [List.set_cons_succ, List.set_cons_zero]
  refine wpAnyH_take (i := 7) (v := .bool true) rfl (by kernel_rfl) (by kernel_rfl) (by kernel_rfl) (fun _ _ _ h => h) (Or.inl ⟨by kernel_rfl, fun w1 hSw => by clear hHeld; obtain ⟨k0, k1, k2, k3, k4, k5, k6, k7, k8⟩ := HCe.out _ hSw; go_simp⟩) hHeld ?_
  try simp only [Act.put]
  try simp only [List.getElem_toArray]
  try simp only [List.getElem_cons_succ]
  try simp only [List.getElem_cons_zero]
  try simp only [List.setIfInBounds_toArray]
  try simp only [List.set_cons_succ, List.set_cons_zero]
  refine wpAnyH_done (by kernel_rfl) ?_ _
  go_wp2_with fail
  refine bodyPost_ret (results_pb rfl _ _ w.heap.size _ rfl HRF.out rfl) rfl ?_
  refine .yes i (.slice p7 n c7) (by rw [HRr.out]; exact HX.out.1) HX.out.2.1 (by rw [HRr.out]; exact HX.out.2.2) (by rw [HRr.out, HPr.out]; rfl) ?_ HBF.out
  rw [HNl.out]
  exact own_weak (own_keep HO.out fun g hg => pl_other V1 (B := w.heap.size) (by have h1 : W2.heap.size ≤ g := (HO.out.lt g hg).1; have h2 : w.heap.size < W2.heap.size := hRl; omega) _ _ _ _ _ _ _ _ _ _) hs2
set_option maxHeartbeats 1000000 in
theorem reserved_any {N : Nat → Prop} {w : World} {b : Nat} {m : Int} {s : Sx} (h : Sd N w b m s) :
    Calls Try.prog 15 #[.pointer (some ⟨b, 0, none⟩)] w fun e w' => e = .returned (.int .i64 s.res) ∧ w' = w := by
  obtain ⟨kb, qb, v, T, hb, hK, hnk, hnf⟩ := h.ex
  have c0 : w.cell? ⟨b, 0, none⟩ = some (.pointer (some ⟨kb, 0, none⟩)) := by simp [World.cell?, hb]
  have c1 := hK.c1
  clear h hK hnk hnf hb
  go_enter Try.func15, Try.ntmps15
  go_wp2_with fail
  go_ret
  exact ⟨rfl, rfl⟩
end Go.Proofs.Ytjalmmdihkcboaa.S
end

section
namespace Go.Proofs.Ytjalmmdihkcboaa.S
open Go.RowKit
open Rc (Ch)
open Q (Rr rr0 Qm Ft Mv)
section
variable {O : Nat → Prop} {base : Nat} {w w0 : World} {kb qb : Nat} {v : Value} {T : Nat → Value} {m : Int} {s : Sx} {c : Ch} {t : Value}
set_option maxHeartbeats 4000000 in
set_option maxRecDepth 20000 in
theorem take_1 (h : Kp O base w kb qb v T m s) (_ : Wf m s) (_ : ∀ g, base ≤ g → O g) (hT : Tx w0 t c.tx) (hB0 : Below base w0 w) (hb0 : w0.heap.size ≤ base) (hl : c.tx.length ≤ 140737488351232) (hc : Rc.check c = 0) (hk : c.k = 1) :
    Calls Try.prog 19 #[.pointer (some ⟨kb, 0, none⟩), .agg (chC c t)] w (TP O base m s c kb qb w) := by
  obtain ⟨q, cq, rfl, -, -⟩ := tx_src hT
  have HD : Hid (∀ V, Kp O base V kb qb v T m s → Below base w V → Calls Try.prog 37 #[.pointer (some ⟨kb, 0, none⟩), .agg (chC c (.slice q c.tx.length cq))] V (TP O base m s c kb qb V)) := hide fun V hV hb => d_reserve hV hc hk
  have HDo := hide (fun V => doings_any V)
  have HCk : Hid (∀ V, Below base w V → Calls Try.prog 28 #[.agg (chC c (.slice q c.tx.length cq))] V fun e w' => e = .returned (.int .i64 0) ∧ Below V.heap.size V w') := hide fun V hV => by
    have := check_any c (.slice q c.tx.length cq) V (hT.below (hB0.trans hV) hb0) hl
    rw [hc] at this
    exact this
  have hlt := h.lt
  have hlow := h.low
  have hHK := h.below (below_alloc w (.cells (chC c (.slice q c.tx.length cq)) 53))
  have hHB : Below base w (w.alloc (.cells (chC c (.slice q c.tx.length cq)) 53)) := (Below.refl _ w).alloc (by omega) _
  have hHN : (w.alloc (.cells (chC c (.slice q c.tx.length cq)) 53)).heap[w.heap.size]? = some (.cells (chC c (.slice q c.tx.length cq)) 53 (0, 0)) := heap_alloc_new w _
  have hsz := World.size_alloc w (.cells (chC c (.slice q c.tx.length cq)) 53)
  generalize c.tx.length = n at *
  simp only [chC] at hHK hHB hHN hsz HCk HD
  rw [hk] at hHK hHB hHN hsz HCk HD
  have HK := hide hHK
  have HB := hide hHB
  have HN := hide hHN
  have HCe : Hid (∀ V : World, V.heap[w.heap.size]? = some (.cells #[.int .i64 1, .int .i64 c.n, .int .i64 c.jo, .int .i64 c.ba, .int .i64 c.sl, .int .i64 c.li, .int .i64 c.rc, .int .u64 (c.rb : Int), .string c.pr, .slice q n cq] 53 (0, 0)) → V.cell? ⟨w.heap.size, 0, none⟩ = some (.int .i64 1) ∧ V.cell? ⟨w.heap.size, 1, none⟩ = some (.int .i64 c.n) ∧ V.cell? ⟨w.heap.size, 2, none⟩ = some (.int .i64 c.jo) ∧ V.cell? ⟨w.heap.size, 3, none⟩ = some (.int .i64 c.ba) ∧ V.cell? ⟨w.heap.size, 4, none⟩ = some (.int .i64 c.sl) ∧ V.cell? ⟨w.heap.size, 5, none⟩ = some (.int .i64 c.li) ∧ V.cell? ⟨w.heap.size, 6, none⟩ = some (.int .i64 c.rc) ∧ V.cell? ⟨w.heap.size, 7, none⟩ = some (.int .u64 (c.rb : Int)) ∧ V.cell? ⟨w.heap.size, 8, none⟩ = some (.string c.pr) ∧ V.cell? ⟨w.heap.size, 9, none⟩ = some (.slice q n cq)) := hide fun V h1 => by simp [World.cell?, h1]
  obtain ⟨a0, a1, a2, a3, a4, a5, a6, a7, a8, a9⟩ := HCe.out _ HN.out
  clear h hT hB0 hb0 hl hHK hHB hHN hc
  have hix : ∀ V : World, (Instr.index 86 (.agg #[.nilFunc, .func (.func 37) #[] #[], .func (.func 38) #[] #[], .func (.func 39) #[] #[], .func (.func 40) #[] #[], .func (.func 41) #[] #[], .func (.func 42) #[] #[]]) (.int .i64 1)).run Try.prog V = .ok (.func (.func 37) #[] #[]) V := fun V => by kernel_rfl
  go_enter Try.func19, Try.ntmps19
  simp only [chC]
  rw [hk]
  clear hk
  go_upto_region 1 with fail
  generalize w.alloc _ = W at *
  go_region_with (first | (go_at_call 28; refine (HCk.out _ HB.out.drew).mono ?_; rintro e V1 ⟨rfl, hb1⟩; have HK1 := hide (HK.out.drew.below hb1); have HB1 := hide (HB.out.drew.trans (hb1.mono (Nat.le_trans hlow (Nat.le_of_lt HK.out.lt)))); have HN1 := hide ((hb1.block w.heap.size (lt_of_block HN.out)).trans HN.out); obtain ⟨b0, b1, b2, b3, b4, b5, b6, b7, b8, b9⟩ := HCe.out _ HN1.out; clear hb1) | (go_at_call 29; refine (HDo.out _).mono ?_; rintro e V2 ⟨rfl, hb2⟩; have HK2 := hide (HK1.out.below hb2); have HB2 := hide (HB1.out.trans (hb2.mono (Nat.le_trans hlow (Nat.le_of_lt HK1.out.lt)))); have HN2 := hide ((hb2.block w.heap.size (lt_of_block HN1.out)).trans HN1.out); obtain ⟨d0, d1, d2, d3, d4, d5, d6, d7, d8, d9⟩ := HCe.out _ HN2.out; clear hb2) | (go_at_call 37; refine (HD.out _ HK2.out HB2.out).mono ?_; rintro e V3 hTP; obtain ⟨r, rfl, hTP2⟩ := hTP.r; have HTP := hide hTP2; clear hTP hTP2))
  all_goals
    go_wp2_with fail
    go_ret
    exact HTP.out.trans HB2.out
end
end Go.Proofs.Ytjalmmdihkcboaa.S
end
