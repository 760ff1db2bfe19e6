import Derived.Test.YtepondcflkledaaGreatMgBB
import Derived.Test.YtepondcflkledaaGreatMgAZ

section
namespace Go.Proofs.YtepondcflkledaaGreat.S
set_option maxRecDepth 20000
open Go.RowKit
open Rc (Ch)
open Q (Rr rr0 Qm Ft Mv fnd hd qfind_any qhead_any)

theorem results_pb {fn : Func} {p u : Tmp} (h : fn.results = #[.cell p 84, .tmp u]) (tmps : Array Value) (w : World) (g : Nat) (cs : Array Value) (hp : tmps.getD p undef = .pointer (some ⟨g, 0, none⟩)) (hg : w.heap[g]? = some (.cells cs 84 (0, 0))) (hc : cs.size = 10) :
    (results fn tmps).run Tryz.prog w = .ok (.tuple #[.agg cs, tmps.getD u undef]) w := by
  have he := run_loadVar_row (P := Tryz.prog) w g 84 84 cs (0, 0) _ hg Tryz.underlying84 rfl (by rw [hc]; kernel_rfl)
  rw [results_cell_tmp h, hp]
  simp [asAddr, he, Result.andThen]
/-- what Find answers -/
inductive FP (s : Sx) (g : Int) (w : World) (e : Ending) (w' : World) : Prop
  | no : fnd g s.L = rr0 → e = .returned (.tuple #[.agg #[.int .i64 0, .int .i64 0, .int .i64 0, .int .i64 0, .int .i64 0, .int .i64 0, .int .i64 0, .int .u64 0, .string ⟨#[]⟩, .slice none 0 0], .bool false]) → Below w.heap.size w w' → FP s g w e w'
  | yes (i : Nat) (t : Value) : fnd g s.L ≠ rr0 → i < s.L.length → fnd g s.L = s.L.getD i rr0 → e = .returned (.tuple #[.agg (plC (fnd g s.L) (s.pa i).pr t), .bool true]) → w'.ownsRow w.heap.size 9 1 t (s.pa i).lg.length (tcs (s.pa i).lg) → Below w.heap.size w w' → FP s g w e w'
set_option maxHeartbeats 300000 in
set_option maxRecDepth 20000 in
theorem find_any {N : Nat → Prop} {w : World} {b : Nat} {m : Int} {s : Sx} (h : Sd N w b m s) (hW : Wf m s) (g : Int) :
    Calls Tryz.prog 23 #[.pointer (some ⟨b, 0, none⟩), .int .i64 g] w (FP s g w) := by
  obtain ⟨kb, qb, v, T, hb, hK, hnk, hnf⟩ := h.ex
  have hbw := lt_of_block hb
  have hba := below_alloc w (.cells #[.int .i64 0, .int .i64 0, .int .i64 0, .int .i64 0, .int .i64 0, .int .i64 0, .int .i64 0, .int .u64 0, .string ⟨#[]⟩, .slice none 0 0] 84)
  have hs0 := World.size_alloc w (.cells #[.int .i64 0, .int .i64 0, .int .i64 0, .int .i64 0, .int .i64 0, .int .i64 0, .int .i64 0, .int .u64 0, .string ⟨#[]⟩, .slice none 0 0] 84)
  have hR0 := heap_alloc_new w (.cells #[.int .i64 0, .int .i64 0, .int .i64 0, .int .i64 0, .int .i64 0, .int .i64 0, .int .i64 0, .int .u64 0, .string ⟨#[]⟩, .slice none 0 0] 84)
  have HQ := hide (qfind_any (hK.below hba).q hW.ok.len g)
  have c0 : (w.alloc (.cells #[.int .i64 0, .int .i64 0, .int .i64 0, .int .i64 0, .int .i64 0, .int .i64 0, .int .i64 0, .int .u64 0, .string ⟨#[]⟩, .slice none 0 0] 84)).cell? ⟨b, 0, none⟩ = some (.pointer (some ⟨kb, 0, none⟩)) := Lib.cell?_alloc_some _ (by simp [World.cell?, hb])
  have c1 : (w.alloc (.cells #[.int .i64 0, .int .i64 0, .int .i64 0, .int .i64 0, .int .i64 0, .int .i64 0, .int .i64 0, .int .u64 0, .string ⟨#[]⟩, .slice none 0 0] 84)).cell? ⟨kb, 0, none⟩ = some (.pointer (some ⟨qb, 0, none⟩)) := Lib.cell?_alloc_some _ hK.c0
  have HK := hide (hK.below hba)
  have HBb := hide ((hba.block b hbw).trans hb)
  have HW := hide hW
  have HFi : Hid (fnd g s.L ≠ rr0 → ∃ i : Nat, i < s.L.length ∧ i < 8 ∧ fnd g s.L = s.L.getD i rr0 ∧ (fnd g s.L).job = (i : Int) + 1) := hide fun h0 => by
    obtain ⟨i, hi, e1, _, _, _, h5⟩ := fnd_in hW.ok h0
    have := hW.ok.len
    exact ⟨i, hi, by omega, by rw [e1, List.getD_eq_getElem?_getD, List.getElem?_eq_getElem hi]; rfl, h5⟩
  obtain ⟨r, hr⟩ : ∃ r, fnd g s.L = r := ⟨_, rfl⟩
  obtain ⟨D, hD⟩ : ∃ D, (!decide (r = rr0)) = D := ⟨_, rfl⟩
  rw [hr, hD] at HQ
  rw [hr] at HFi
  have HD := hide hD
  have HRr := hide hr
  clear h hK hnk hnf hb hW hr hD
  go_enter Tryz.func23, Tryz.ntmps23
  go_wp2_with fail
  have HB0 := hide hba
  have HR0 := hide hR0
  clear hba hR0
  generalize w.alloc _ = W at *
  refine HQ.out.mono ?_
  rintro e w1 ⟨rfl, hb1⟩
  have HK1 := hide (HK.out.below hb1)
  have HB1 := hide (HB0.out.trans (hb1.mono (by omega)))
  have HSb1 := hide ((hb1.block b (lt_of_block HBb.out)).trans HBb.out)
  have HR1' := hide ((hb1.block w.heap.size (lt_of_block HR0.out)).trans HR0.out)
  clear hb1 HQ HK HB0 HBb HR0 c0 c1
  have hsz1 := HB1.out.size
  have hRl1 := lt_of_block HR1'.out
  cases D with
  | false =>
    obtain ⟨q0, q1, q2, q3, q4, q5, q6, q7, q8, q9, z0, z1, z2, z3, z4, z5, z6, z7, z8, z9⟩ := pl_of HR1'.out
    have hr0 : r = rr0 := by have := HD.out; simpa using this
    have HRF0 := hide (pl_set HR1'.out (.int .i64 0) (.int .i64 0) (.int .i64 0) (.int .i64 0) (.int .i64 0) (.int .i64 0) (.int .i64 0) (.int .u64 0) (.string ⟨#[]⟩) (.slice none 0 0))
    have HBF0 := hide (pl_below HB1.out (Nat.le_refl _) (.int .i64 0) (.int .i64 0) (.int .i64 0) (.int .i64 0) (.int .i64 0) (.int .i64 0) (.int .i64 0) (.int .u64 0) (.string ⟨#[]⟩) (.slice none 0 0))
    have HRF := hide (((below_alloc _ (.cells #[.int .i64 r.job, .int .i64 r.st, .int .i64 r.att, .int .i64 r.bdg, .int .i64 r.node, .int .i64 r.life, .int .i64 r.code, .int .u64 r.bits] 82)).block _ (lt_of_block HRF0.out)).trans HRF0.out)
    have HBF := hide (HBF0.out.alloc HBF0.out.size (.cells #[.int .i64 r.job, .int .i64 r.st, .int .i64 r.att, .int .i64 r.bdg, .int .i64 r.node, .int .i64 r.life, .int .i64 r.code, .int .u64 r.bits] 82))
    have HR0 := hide hr0
    clear hr0 HK1 HSb1 HFi HW HRF0 HBF0
    go_wp2_with fail
    refine bodyPost_ret (results_pb rfl _ _ w.heap.size _ rfl HRF.out rfl) rfl ?_
    exact .no (HRr.out.trans HR0.out) rfl HBF.out
  | true =>
  have hr0 : r ≠ rr0 := by have := HD.out; simpa using this
  obtain ⟨i, hil, hi8, hgd, hjob⟩ := HFi.out hr0
  have hba := below_alloc w1 (.cells #[.int .i64 r.job, .int .i64 r.st, .int .i64 r.att, .int .i64 r.bdg, .int .i64 r.node, .int .i64 r.life, .int .i64 r.code, .int .u64 r.bits] 82)
  have HPl := hide (kplace_any (HK1.out.below hba).drew hi8 hjob (HW.out.pp i).2.1)
  have HSb := hide ((hba.block b (lt_of_block HSb1.out)).trans HSb1.out)
  have HSy0 := heap_alloc_new w1 (.cells #[.int .i64 r.job, .int .i64 r.st, .int .i64 r.att, .int .i64 r.bdg, .int .i64 r.node, .int .i64 r.life, .int .i64 r.code, .int .u64 r.bits] 82)
  obtain ⟨Y, hY⟩ : ∃ Y, w1.heap.size = Y := ⟨_, rfl⟩
  rw [hY] at HSy0
  have HSy := hide HSy0
  have HR := hide ((hba.block _ hRl1).trans HR1'.out)
  have HB : Hid (Below w.heap.size w (w1.alloc (.cells #[.int .i64 r.job, .int .i64 r.st, .int .i64 r.att, .int .i64 r.bdg, .int .i64 r.node, .int .i64 r.life, .int .i64 r.code, .int .u64 r.bits] 82))) := hide (HB1.out.alloc hsz1 _)
  have hYs : (w1.alloc (.cells #[.int .i64 r.job, .int .i64 r.st, .int .i64 r.att, .int .i64 r.bdg, .int .i64 r.node, .int .i64 r.life, .int .i64 r.code, .int .u64 r.bits] 82)).heap.size = Y + 1 := by rw [← hY]; exact World.size_alloc _ _
  have HX := hide (And.intro hr0 (And.intro hil hgd))
  obtain ⟨pr, hpr⟩ : ∃ pr, (s.pa i).pr = pr := ⟨_, rfl⟩
  have HPr := hide hpr
  rw [hpr] at HPl
  obtain ⟨n, hn⟩ : ∃ n, (s.pa i).lg.length = n := ⟨_, rfl⟩
  have HNl := hide hn
  rw [hn] at HPl
  rw [hY] at hRl1 hsz1
  clear HSy0 HSb1 HR1' HB1 HK1 HFi HW hba hr0 hil hgd hjob hpr hn
  go_upto_region 4 with fail
  generalize w1.alloc _ = W2 at *
  have hbl : b < W2.drew.heap.size := lt_of_block HSb.out
  have hYl : Y < W2.drew.heap.size := lt_of_block HSy.out
  have hRl : w.heap.size < W2.drew.heap.size := lt_of_block HR.out
  have hs2 : w.heap.size ≤ W2.drew.heap.size := HB.out.size
  have HCe : Hid (∀ w' : World, (fun w' => w'.heap[b]? = some (.cells #[.pointer (some ⟨kb, 0, none⟩)] 59 (0, 0)) ∧ w'.heap[Y]? = some (.cells #[.int .i64 r.job, .int .i64 r.st, .int .i64 r.att, .int .i64 r.bdg, .int .i64 r.node, .int .i64 r.life, .int .i64 r.code, .int .u64 r.bits] 82 (0, 0))) w' → w'.cell? ⟨b, 0, none⟩ = some (.pointer (some ⟨kb, 0, none⟩)) ∧ w'.cell? ⟨Y, 0, none⟩ = some (.int .i64 r.job) ∧ w'.cell? ⟨Y, 1, none⟩ = some (.int .i64 r.st) ∧ w'.cell? ⟨Y, 2, none⟩ = some (.int .i64 r.att) ∧ w'.cell? ⟨Y, 3, none⟩ = some (.int .i64 r.bdg) ∧ w'.cell? ⟨Y, 4, none⟩ = some (.int .i64 r.node) ∧ w'.cell? ⟨Y, 5, none⟩ = some (.int .i64 r.life) ∧ w'.cell? ⟨Y, 6, none⟩ = some (.int .i64 r.code) ∧ w'.cell? ⟨Y, 7, none⟩ = some (.int .u64 r.bits)) := hide fun w' hw => by
    obtain ⟨h1, h2⟩ := hw
    simp [World.cell?, h1, h2]
  refine wp_region_held_drew (S := fun w' => w'.heap[b]? = some (.cells #[.pointer (some ⟨kb, 0, none⟩)] 59 (0, 0)) ∧ w'.heap[Y]? = some (.cells #[.int .i64 r.job, .int .i64 r.st, .int .i64 r.att, .int .i64 r.bdg, .int .i64 r.node, .int .i64 r.life, .int .i64 r.code, .int .u64 r.bits] 82 (0, 0))) (by kernel_rfl) (⟨HSb.out, HSy.out⟩) (fun hHeld => ?_)
  refine wpAnyH_take (i := 0) (v := .pointer (some ⟨b, 0, none⟩)) rfl (by kernel_rfl) (by kernel_rfl) (by kernel_rfl) (fun _ _ _ h => h) (Or.inl ⟨by kernel_rfl, fun w1 hSw => by clear hHeld; obtain ⟨k0, k1, k2, k3, k4, k5, k6, k7, k8⟩ := HCe.out _ hSw; go_simp⟩) hHeld ?_
  try simp only [Act.put]
  try simp only [List.getElem_toArray]
  try simp only [List.getElem_cons_succ]
  try simp only [List.getElem_cons_zero]
  try simp only [List.setIfInBounds_toArray]
  try simp only [List.set_cons_succ, List.set_cons_zero]
  refine wpAnyH_take (i := 1) (v := .pointer (some ⟨b, 0, none⟩)) rfl (by kernel_rfl) (by kernel_rfl) (by kernel_rfl) (fun _ _ _ h => h) (Or.inl ⟨by kernel_rfl, fun w1 hSw => by clear hHeld; obtain ⟨k0, k1, k2, k3, k4, k5, k6, k7, k8⟩ := HCe.out _ hSw; go_simp⟩) hHeld ?_
  try simp only [Act.put]
  try simp only [List.getElem_toArray]
  try simp only [List.getElem_cons_succ]
  try simp only [List.getElem_cons_zero]
  try simp only [List.setIfInBounds_toArray]
  try simp only [List.set_cons_succ, List.set_cons_zero]
  refine wpAnyH_take (i := 2) (v := .pointer (some ⟨b, 0, none⟩)) rfl (by kernel_rfl) (by kernel_rfl) (by kernel_rfl) (fun _ _ _ h => h) (Or.inl ⟨by kernel_rfl, fun w1 hSw => by clear hHeld; obtain ⟨k0, k1, k2, k3, k4, k5, k6, k7, k8⟩ := HCe.out _ hSw; go_simp⟩) hHeld ?_
  try simp only [Act.put]
  try simp only [List.getElem_toArray]
  try simp only [List.getElem_cons_succ]
  try simp only [List.getElem_cons_zero]
  try simp only [List.setIfInBounds_toArray]
  try simp only [List.set_cons_succ, List.set_cons_zero]
  refine wpAnyH_take (i := 3) (v := .pointer (some ⟨kb, 0, none⟩)) rfl (by kernel_rfl) (by kernel_rfl) (by kernel_rfl) (fun _ _ _ h => h) (Or.inl ⟨by kernel_rfl, fun w1 hSw => by clear hHeld; obtain ⟨k0, k1, k2, k3, k4, k5, k6, k7, k8⟩ := HCe.out _ hSw; go_simp⟩) hHeld ?_
  try simp only [Act.put]
  try simp only [List.getElem_toArray]
  try simp only [List.getElem_cons_succ]
  try simp only [List.getElem_cons_zero]
  try simp only [List.setIfInBounds_toArray]
  try simp only [List.set_cons_succ, List.set_cons_zero]
  refine wpAnyH_take (i := 4) (v := .agg #[.int .i64 r.job, .int .i64 r.st, .int .i64 r.att, .int .i64 r.bdg, .int .i64 r.node, .int .i64 r.life, .int .i64 r.code, .int .u64 r.bits]) rfl (by kernel_rfl) (by kernel_rfl) (by kernel_rfl) (fun _ _ _ h => h) (Or.inl ⟨by kernel_rfl, fun w1 hSw => by clear hHeld; obtain ⟨k0, k1, k2, k3, k4, k5, k6, k7, k8⟩ := HCe.out _ hSw; go_simp⟩) hHeld ?_
  try simp only [Act.put]
  try simp only [List.getElem_toArray]
  try simp only [List.getElem_cons_succ]
  try simp only [List.getElem_cons_zero]
  try simp only [List.setIfInBounds_toArray]
  try simp only [List.set_cons_succ, List.set_cons_zero]
  refine wpAnyH_ready (rs := [5]) (by kernel_rfl) (by simp) ?_
  refine AllReadyH.cons rfl (fun K hK => ?_) AllReadyH.nil
  go_simp
  refine HPl.out.mono ?_
  rintro e V1 ⟨t7, rfl, ho, hb⟩
  have hn7 := own_slice ho
  obtain ⟨p7, c7, rfl⟩ := hn7
  have HO := hide ho
  have HB1 := hide (HB.out.drew.trans (hb.mono hs2))
  have HS1 := hide (⟨(hb.block _ hbl).trans HSb.out, (hb.block _ hYl).trans HSy.out⟩ : _ ∧ _)
  have HR1 := hide ((hb.block _ hRl).trans HR.out)
  clear ho hb
  simp only [plC]
  refine hK.out _ _ (HS1.out) (fun hHeld => ?_)
  clear hK K
  try simp only [Act.put]
  try simp only [List.getElem_toArray]
  try simp only [List.getElem_cons_succ]
  try simp only [List.getElem_cons_zero]
  try simp only [List.setIfInBounds_toArray]
  try simp only [List.set_cons_succ, List.set_cons_zero]
  refine wpAnyH_ready (rs := [6]) (by kernel_rfl) (by simp) ?_
  refine AllReadyH.cons rfl (fun K hK => ?_) AllReadyH.nil
  obtain ⟨q0, q1, q2, q3, q4, q5, q6, q7, q8, q9, z0, z1, z2, z3, z4, z5, z6, z7, z8, z9⟩ := pl_of HR1.out
  have hRl1 := lt_of_block HR1.out
  have HRF := hide (pl_set HR1.out (.int .i64 r.job) (.int .i64 r.st) (.int .i64 r.att) (.int .i64 r.bdg) (.int .i64 r.node) (.int .i64 r.life) (.int .i64 r.code) (.int .u64 r.bits) (.string pr) (.slice p7 n c7))
  have HSF := hide (⟨(pl_other V1 (B := w.heap.size) (g := b) (by omega) (.int .i64 r.job) (.int .i64 r.st) (.int .i64 r.att) (.int .i64 r.bdg) (.int .i64 r.node) (.int .i64 r.life) (.int .i64 r.code) (.int .u64 r.bits) (.string pr) (.slice p7 n c7)).trans HS1.out.1, (pl_other V1 (B := w.heap.size) (g := Y) (by omega) (.int .i64 r.job) (.int .i64 r.st) (.int .i64 r.att) (.int .i64 r.bdg) (.int .i64 r.node) (.int .i64 r.life) (.int .i64 r.code) (.int .u64 r.bits) (.string pr) (.slice p7 n c7)).trans HS1.out.2⟩ : _ ∧ _)
  have HBF := hide (pl_below HB1.out (Nat.le_refl _) (.int .i64 r.job) (.int .i64 r.st) (.int .i64 r.att) (.int .i64 r.bdg) (.int .i64 r.node) (.int .i64 r.life) (.int .i64 r.code) (.int .u64 r.bits) (.string pr) (.slice p7 n c7))
  go_simp
  refine hK.out _ _ (HSF.out) (fun hHeld => ?_)
  clear hK K
  try simp only [Act.put]
  try simp only [List.getElem_toArray]
  try simp only [List.getElem_cons_succ]
  try simp only [List.getElem_cons_zero]
  try simp only [List.setIfInBounds_toArray]
  try simp only [List.set_cons_succ, List.set_cons_zero]
  refine wpAnyH_take (i := 7) (v := .bool true) rfl (by kernel_rfl) (by kernel_rfl) (by kernel_rfl) (fun _ _ _ h => h) (Or.inl ⟨by kernel_rfl, fun w1 hSw => by clear hHeld; obtain ⟨k0, k1, k2, k3, k4, k5, k6, k7, k8⟩ := HCe.out _ hSw; go_simp⟩) hHeld ?_
  try simp only [Act.put]
  try simp only [List.getElem_toArray]
  try simp only [List.getElem_cons_succ]
  try simp only [List.getElem_cons_zero]
  try simp only [List.setIfInBounds_toArray]
  try simp only [List.set_cons_succ, List.set_cons_zero]
  refine wpAnyH_done (by kernel_rfl) ?_ _
  go_wp2_with fail
  refine bodyPost_ret (results_pb rfl _ _ w.heap.size _ rfl HRF.out rfl) rfl ?_
  refine .yes i (.slice p7 n c7) (by rw [HRr.out]; exact HX.out.1) HX.out.2.1 (by rw [HRr.out]; exact HX.out.2.2) (by rw [HRr.out, HPr.out]; rfl) ?_ HBF.out
  rw [HNl.out]
  exact own_weak (own_keep HO.out fun g hg => pl_other V1 (B := w.heap.size) (by have h1 : W2.heap.size ≤ g := (HO.out.lt g hg).1; have h2 : w.heap.size < W2.heap.size := hRl; omega) _ _ _ _ _ _ _ _ _ _) hs2
set_option maxHeartbeats 1000000 in
theorem head_any {N : Nat → Prop} {w : World} {b : Nat} {m : Int} {s : Sx} (h : Sd N w b m s) (hW : Wf m s) :
    Calls Tryz.prog 46 #[.pointer (some ⟨b, 0, none⟩)] w fun e w' => e = .returned (.int .i64 (hd s.L)) ∧ Below w.heap.size w w' := by
  obtain ⟨kb, qb, v, T, hb, hK, hnk, hnf⟩ := h.ex
  have c0 : w.cell? ⟨b, 0, none⟩ = some (.pointer (some ⟨kb, 0, none⟩)) := by simp [World.cell?, hb]
  have c1 := hK.c0
  have HQ := hide (qhead_any hK.q hW.ok.len)
  clear h hK hnk hnf hb hW
  go_enter Tryz.func46, Tryz.ntmps46
  go_wp2_with fail
  refine HQ.out.mono ?_
  rintro e w1 ⟨rfl, hb1⟩
  have HB := hide hb1
  clear hb1 HQ
  go_wp2_with fail
  go_ret
  exact ⟨rfl, HB.out⟩
set_option maxHeartbeats 1000000 in
theorem reserved_any {N : Nat → Prop} {w : World} {b : Nat} {m : Int} {s : Sx} (h : Sd N w b m s) :
    Calls Tryz.prog 24 #[.pointer (some ⟨b, 0, none⟩)] w fun e w' => e = .returned (.int .i64 s.res) ∧ w' = w := by
  obtain ⟨kb, qb, v, T, hb, hK, hnk, hnf⟩ := h.ex
  have c0 : w.cell? ⟨b, 0, none⟩ = some (.pointer (some ⟨kb, 0, none⟩)) := by simp [World.cell?, hb]
  have c1 := hK.c1
  clear h hK hnk hnf hb
  go_enter Tryz.func24, Tryz.ntmps24
  go_wp2_with fail
  go_ret
  exact ⟨rfl, rfl⟩
end Go.Proofs.YtepondcflkledaaGreat.S
end

section
namespace Go.Proofs.YtepondcflkledaaGreat.S
set_option maxRecDepth 20000
open Go.RowKit
open Rc (Ch)
open Q (Rr rr0 Qm Ft Mv)

set_option maxHeartbeats 1000000 in
theorem texts_alike {w : World} {u v : Value} {l : List ByteArray} (hu : Tx w u l) (hv : Tx w v l) (hl : l.length ≤ 64) :
    Calls Tryz.prog 66 #[u, v] w fun e w' => e = .returned (.bool true) ∧ Below w.heap.size w w' := by
  obtain ⟨p, cap, rfl, h1⟩ := hu
  obtain ⟨q, cq, rfl, h2⟩ := hv
  have H1 := hide h1
  have H2 := hide h2
  clear h1 h2
  go_enter Tryz.func66, Tryz.ntmps66
  go_wp2
  go_loopw [5] (fun u wr => ∃ i n : Nat, u = .int .i64 (i : Int) ∧ i ≤ l.length ∧ wr = w.drewN n) (fun u _ => (l.length - (intOf u).toNat))
  case atStart => exact ⟨0, 0, rfl, Nat.zero_le _, rfl⟩
  case round =>
    obtain ⟨i, n, rfl, hi, rfl⟩ := hrel
    by_cases hil : i < l.length
    · obtain ⟨b1, o1, rfl, hl1, hc1⟩ := H1.out (by omega)
      obtain ⟨b2, o2, rfl, hl2, hc2⟩ := H2.out (by omega)
      have c0 := hc1 i hil
      have c1 := hc2 i hil
      generalize l[i]! = s at c0 c1
      clear hc1 hc2 H1 H2
      go_wp2
      go_quiet (fail)
      go_wp2
      exact ⟨⟨i + 1, _, by go_num, by omega, rfl⟩, by simp [intOf]; omega⟩
    · obtain rfl : i = l.length := by omega
      go_wp2
      go_ret
      exact ⟨rfl, below_drewN (Below.refl _ _) _⟩
set_option maxHeartbeats 1000000 in
set_option maxRecDepth 8000 in
theorem place_alike {w : World} {r : Rr} {pr : ByteArray} {t u : Value} {lg : List ByteArray} (ht : Tx w t lg) (hu : Tx w u lg) (hl : lg.length ≤ 64) :
    Calls Tryz.prog 36 #[.agg (plC r pr t), .agg (plC r pr u)] w fun e w' => e = .returned (.bool true) ∧ Below w.heap.size w w' := by
  have heq : ∀ W : World, (binOp .eql 82 (.agg #[.int .i64 r.job, .int .i64 r.st, .int .i64 r.att, .int .i64 r.bdg, .int .i64 r.node, .int .i64 r.life, .int .i64 r.code, .int .u64 r.bits]) (.agg #[.int .i64 r.job, .int .i64 r.st, .int .i64 r.att, .int .i64 r.bdg, .int .i64 r.node, .int .i64 r.life, .int .i64 r.code, .int .u64 r.bits])).run Tryz.prog W = .ok (.bool true) W := fun W => by
    have := Q.eqlR_any r r W
    rw [decide_eq_true rfl] at this
    exact this
  obtain ⟨p, cap, rfl, _⟩ := id ht
  obtain ⟨q, cq, rfl, _⟩ := id hu
  have hb1 := below_alloc w (.cells (plC r pr (.slice p lg.length cap)) 84)
  have hb2 := below_alloc (w.alloc (.cells (plC r pr (.slice p lg.length cap)) 84)) (.cells (plC r pr (.slice q lg.length cq)) 84)
  have HB : Hid (Below w.heap.size w ((w.alloc (.cells (plC r pr (.slice p lg.length cap)) 84)).alloc (.cells (plC r pr (.slice q lg.length cq)) 84))) := hide (hb1.alloc hb1.size _)
  have HT := hide (texts_alike (ht.below HB.out (Nat.le_refl _)) (hu.below HB.out (Nat.le_refl _)) hl)
  simp only [plC] at HB HT
  clear ht hu hb1 hb2
  go_enter Tryz.func36, Tryz.ntmps36
  simp only [plC]
  go_wp2_with fail
  refine HT.out.mono ?_
  rintro e w1 ⟨rfl, hb⟩
  have HF := hide (HB.out.trans (hb.mono HB.out.size))
  clear hb HT
  go_wp2_with fail
  go_ret
  exact ⟨rfl, HF.out⟩
set_option maxHeartbeats 1000000 in
set_option maxRecDepth 20000 in
theorem view_alike {A B : Nat} {w : World} {v1 v2 : Value} {J1 J2 : List Jb} {m : Int} {s : Sx} {rs : Int} (h1 : Jr A w v1 J1) (h2 : Jr B w v2 J2) (hW : Wf m s) (hn1 : J1.length = s.L.length) (hn2 : J2.length = s.L.length) (hv1 : Jv s J1 s.L.length) (hv2 : Jv s J2 s.L.length) :
    Calls Tryz.prog 14 #[.agg #[.int .i64 rs, v1], .agg #[.int .i64 rs, v2]] w fun e w' => e = .returned (.bool true) ∧ Below w.heap.size w w' := by
  have HJ1 := hide h1
  have HJ2 := hide h2
  have HV1' := hide hv1
  have HV2' := hide hv2
  have HW := hide hW
  have hl8 := hW.ok.len
  obtain ⟨pa1, k1, e1⟩ := own_slice h1.row
  obtain ⟨pa2, k2, e2⟩ := own_slice h2.row
  rw [hn1] at e1
  rw [hn2] at e2
  subst e1
  subst e2
  obtain ⟨N, hN⟩ : ∃ N, s.L.length = N := ⟨_, rfl⟩
  have HN1 := hide hn1
  have HN2 := hide hn2
  have HNN := hide hN
  rw [hN] at HV1' HV2' HN1 HN2 hl8 HJ1 HJ2 ⊢
  have hs1 := World.size_alloc w (.cells #[.int .i64 rs, .slice pa1 N k1] 45)
  have hn1' := heap_alloc_new w (.cells #[.int .i64 rs, .slice pa1 N k1] 45)
  have hb2 := below_alloc (w.alloc (.cells #[.int .i64 rs, .slice pa1 N k1] 45)) (.cells #[.int .i64 rs, .slice pa2 N k2] 45)
  have hn2' := heap_alloc_new (w.alloc (.cells #[.int .i64 rs, .slice pa1 N k1] 45)) (.cells #[.int .i64 rs, .slice pa2 N k2] 45)
  rw [hs1] at hn2'
  have HX1 := hide ((hb2.block _ (lt_of_block hn1')).trans hn1')
  have HX2 := hide hn2'
  have HB0 : Hid (Below w.heap.size w ((w.alloc (.cells #[.int .i64 rs, .slice pa1 N k1] 45)).alloc (.cells #[.int .i64 rs, .slice pa2 N k2] 45))) := hide ((below_alloc w _).alloc (by omega) _)
  clear h1 h2 hW hv1 hv2 hn1 hn2 hN hs1 hn1' hb2 hn2'
  go_enter Tryz.func14, Tryz.ntmps14
  go_wp2_with fail
  generalize (w.alloc _).alloc _ = W0 at *
  go_loopw [5] (fun u wr => ∃ i : Nat, u = .int .i64 (i : Int) ∧ i ≤ N ∧ Hid (Below w.heap.size w wr) ∧ Hid (wr.heap[w.heap.size]? = some (.cells #[.int .i64 rs, .slice pa1 N k1] 45 (0, 0))) ∧ Hid (wr.heap[w.heap.size + 1]? = some (.cells #[.int .i64 rs, .slice pa2 N k2] 45 (0, 0)))) (fun u _ => N - (intOf u).toNat)
  case atStart => exact ⟨0, rfl, Nat.zero_le _, HB0, HX1, HX2⟩
  case round =>
    clear HB0 HX1 HX2
    obtain ⟨i, rfl, hi, HBr, HV1, HV2⟩ := hrel
    have u1 : wr.cell? ⟨w.heap.size, 1, none⟩ = some (.slice pa1 N k1) := by simp [World.cell?, HV1.out]
    by_cases hil : i < N
    · rcases HJ1.out.row.2 with ⟨e1, e2⟩ | ⟨g1, cap1, cur1, e1, _, hgc1, _⟩
      · have := HN1.out; omega
      rcases HJ2.out.row.2 with ⟨e3, e4⟩ | ⟨g2, cap2, cur2, e3, _, hgc2, _⟩
      · have := HN2.out; omega
      simp only [Value.slice.injEq] at e1 e3
      obtain ⟨rfl, -, rfl⟩ := e1
      obtain ⟨rfl, -, rfl⟩ := e3
      have hg1 := lt_of_block hgc1
      have hg2 := lt_of_block hgc2
      obtain ⟨t1, ht1⟩ := HV1'.out i hil
      obtain ⟨t2, ht2⟩ := HV2'.out i hil
      have hi1 : i < J1.length := by have := HN1.out; omega
      have hi2 : i < J2.length := by have := HN2.out; omega
      rw [List.getElem?_eq_getElem hi1, Option.some.injEq] at ht1
      rw [List.getElem?_eq_getElem hi2, Option.some.injEq] at ht2
      have hpp := HW.out.pp i
      have hm1 := HJ1.out.lg J1[i] (List.getElem_mem hi1)
      have hm2 := HJ2.out.lg J2[i] (List.getElem_mem hi2)
      have hc1 : ∀ k u, k < 10 → (J1[i]).cs[k]? = some u → w.cell? ⟨g1, i * 10 + k, none⟩ = some u := fun k u hk hu => by
        have h3 := HJ1.out.row.cells (g := g1) rfl (i * 10 + k) u (by rw [jcs_get J1 i k hi1 hk]; exact hu)
        rw [Addr.add_lit, Nat.zero_add] at h3
        exact h3
      have hc2 : ∀ k u, k < 10 → (J2[i]).cs[k]? = some u → w.cell? ⟨g2, i * 10 + k, none⟩ = some u := fun k u hk hu => by
        have h3 := HJ2.out.row.cells (g := g2) rfl (i * 10 + k) u (by rw [jcs_get J2 i k hi2 hk]; exact hu)
        rw [Addr.add_lit, Nat.zero_add] at h3
        exact h3
      rw [ht1] at hc1 hm1
      rw [ht2] at hc2 hm2
      generalize s.L.getD i rr0 = r at *
      generalize s.pa i = P at *
      obtain ⟨pr, lg⟩ := P
      simp only at hm1 hm2 hpp
      have hT1 : Tx w t1 lg := tx_own hm1
      have hT2 : Tx w t2 lg := tx_own hm2
      obtain ⟨p1, c1, rfl⟩ := own_slice hm1
      obtain ⟨p2, c2, rfl⟩ := own_slice hm2
      have HP : Hid (∀ V, Below w.heap.size w V → Calls Tryz.prog 36 #[.agg (plC r pr (.slice p1 lg.length c1)), .agg (plC r pr (.slice p2 lg.length c2))] V fun e w' => e = .returned (.bool true) ∧ Below V.heap.size V w') := hide fun V hV => place_alike (hT1.below hV (Nat.le_refl _)) (hT2.below hV (Nat.le_refl _)) (by have := hpp.2.1; omega)
      simp only [plC] at HP
      generalize lg.length = n at *
      have hii : (i : Int) < (N : Int) := by omega
      have HCe : Hid (∀ w' : World, (fun w' => Below w.heap.size w w' ∧ w'.heap[w.heap.size]? = some (.cells #[.int .i64 rs, .slice (some ⟨g1, 0, none⟩) N k1] 45 (0, 0)) ∧ w'.heap[w.heap.size + 1]? = some (.cells #[.int .i64 rs, .slice (some ⟨g2, 0, none⟩) N k2] 45 (0, 0))) w' → w'.cell? ⟨w.heap.size, 1, none⟩ = some (.slice (some ⟨g1, 0, none⟩) N k1) ∧ w'.cell? ⟨w.heap.size + 1, 1, none⟩ = some (.slice (some ⟨g2, 0, none⟩) N k2) ∧ w'.cell? ⟨g1, i * 10, none⟩ = some (.int .i64 r.job) ∧ w'.cell? ⟨g1, i * 10 + 1, none⟩ = some (.int .i64 r.st) ∧ w'.cell? ⟨g1, i * 10 + 2, none⟩ = some (.int .i64 r.att) ∧ w'.cell? ⟨g1, i * 10 + 3, none⟩ = some (.int .i64 r.bdg) ∧ w'.cell? ⟨g1, i * 10 + 4, none⟩ = some (.int .i64 r.node) ∧ w'.cell? ⟨g1, i * 10 + 5, none⟩ = some (.int .i64 r.life) ∧ w'.cell? ⟨g1, i * 10 + 6, none⟩ = some (.int .i64 r.code) ∧ w'.cell? ⟨g1, i * 10 + 7, none⟩ = some (.int .u64 r.bits) ∧ w'.cell? ⟨g1, i * 10 + 8, none⟩ = some (.string pr) ∧ w'.cell? ⟨g1, i * 10 + 9, none⟩ = some (.slice p1 n c1) ∧ w'.cell? ⟨g2, i * 10, none⟩ = some (.int .i64 r.job) ∧ w'.cell? ⟨g2, i * 10 + 1, none⟩ = some (.int .i64 r.st) ∧ w'.cell? ⟨g2, i * 10 + 2, none⟩ = some (.int .i64 r.att) ∧ w'.cell? ⟨g2, i * 10 + 3, none⟩ = some (.int .i64 r.bdg) ∧ w'.cell? ⟨g2, i * 10 + 4, none⟩ = some (.int .i64 r.node) ∧ w'.cell? ⟨g2, i * 10 + 5, none⟩ = some (.int .i64 r.life) ∧ w'.cell? ⟨g2, i * 10 + 6, none⟩ = some (.int .i64 r.code) ∧ w'.cell? ⟨g2, i * 10 + 7, none⟩ = some (.int .u64 r.bits) ∧ w'.cell? ⟨g2, i * 10 + 8, none⟩ = some (.string pr) ∧ w'.cell? ⟨g2, i * 10 + 9, none⟩ = some (.slice p2 n c2)) := hide fun w' hw => ⟨by simp [World.cell?, hw.2.1], by simp [World.cell?, hw.2.2], (hw.1.cell (p := ⟨g1, i * 10, none⟩) hg1).trans (hc1 0 _ (by decide) rfl), (hw.1.cell (p := ⟨g1, i * 10 + 1, none⟩) hg1).trans (hc1 1 _ (by decide) rfl), (hw.1.cell (p := ⟨g1, i * 10 + 2, none⟩) hg1).trans (hc1 2 _ (by decide) rfl), (hw.1.cell (p := ⟨g1, i * 10 + 3, none⟩) hg1).trans (hc1 3 _ (by decide) rfl), (hw.1.cell (p := ⟨g1, i * 10 + 4, none⟩) hg1).trans (hc1 4 _ (by decide) rfl), (hw.1.cell (p := ⟨g1, i * 10 + 5, none⟩) hg1).trans (hc1 5 _ (by decide) rfl), (hw.1.cell (p := ⟨g1, i * 10 + 6, none⟩) hg1).trans (hc1 6 _ (by decide) rfl), (hw.1.cell (p := ⟨g1, i * 10 + 7, none⟩) hg1).trans (hc1 7 _ (by decide) rfl), (hw.1.cell (p := ⟨g1, i * 10 + 8, none⟩) hg1).trans (hc1 8 _ (by decide) rfl), (hw.1.cell (p := ⟨g1, i * 10 + 9, none⟩) hg1).trans (hc1 9 _ (by decide) rfl), (hw.1.cell (p := ⟨g2, i * 10, none⟩) hg2).trans (hc2 0 _ (by decide) rfl), (hw.1.cell (p := ⟨g2, i * 10 + 1, none⟩) hg2).trans (hc2 1 _ (by decide) rfl), (hw.1.cell (p := ⟨g2, i * 10 + 2, none⟩) hg2).trans (hc2 2 _ (by decide) rfl), (hw.1.cell (p := ⟨g2, i * 10 + 3, none⟩) hg2).trans (hc2 3 _ (by decide) rfl), (hw.1.cell (p := ⟨g2, i * 10 + 4, none⟩) hg2).trans (hc2 4 _ (by decide) rfl), (hw.1.cell (p := ⟨g2, i * 10 + 5, none⟩) hg2).trans (hc2 5 _ (by decide) rfl), (hw.1.cell (p := ⟨g2, i * 10 + 6, none⟩) hg2).trans (hc2 6 _ (by decide) rfl), (hw.1.cell (p := ⟨g2, i * 10 + 7, none⟩) hg2).trans (hc2 7 _ (by decide) rfl), (hw.1.cell (p := ⟨g2, i * 10 + 8, none⟩) hg2).trans (hc2 8 _ (by decide) rfl), (hw.1.cell (p := ⟨g2, i * 10 + 9, none⟩) hg2).trans (hc2 9 _ (by decide) rfl)⟩
      clear hc1 hc2 hm1 hm2 hT1 hT2 ht1 ht2 hgc1 hgc2 hpp HJ1 HJ2 HV1' HV2' HW
      go_upto_region 6 with fail
      refine wp_region_held_drew (S := fun w' => Below w.heap.size w w' ∧ w'.heap[w.heap.size]? = some (.cells #[.int .i64 rs, .slice (some ⟨g1, 0, none⟩) N k1] 45 (0, 0)) ∧ w'.heap[w.heap.size + 1]? = some (.cells #[.int .i64 rs, .slice (some ⟨g2, 0, none⟩) N k2] 45 (0, 0))) (by kernel_rfl) (⟨HBr.out.drew, HV1.out, HV2.out⟩) (fun hHeld => ?_)
      refine wpAnyH_take (i := 0) (v := .pointer (some ⟨w.heap.size, 1, none⟩)) rfl (by kernel_rfl) (by kernel_rfl) (by kernel_rfl) (fun _ _ _ h => h) (Or.inl ⟨by kernel_rfl, fun w1 hSw => by clear hHeld; obtain ⟨f0, f1, f2, f3, f4, f5, f6, f7, f8, f9, f10, f11, f12, f13, f14, f15, f16, f17, f18, f19, f20, f21⟩ := HCe.out _ hSw; go_simp⟩) hHeld ?_
      try simp only [Act.put]
      try simp only [List.getElem_toArray]
      try simp only [List.getElem_cons_succ]
      try simp only [List.getElem_cons_zero]
      try simp only [List.setIfInBounds_toArray]
      try simp only [List.set_cons_succ, List.set_cons_zero]
      refine wpAnyH_take (i := 1) (v := .slice (some ⟨g1, 0, none⟩) N k1) rfl (by kernel_rfl) (by kernel_rfl) (by kernel_rfl) (fun _ _ _ h => h) (Or.inl ⟨by kernel_rfl, fun w1 hSw => by clear hHeld; obtain ⟨f0, f1, f2, f3, f4, f5, f6, f7, f8, f9, f10, f11, f12, f13, f14, f15, f16, f17, f18, f19, f20, f21⟩ := HCe.out _ hSw; go_simp⟩) hHeld ?_
      try simp only [Act.put]
      try simp only [List.getElem_toArray]
      try simp only [List.getElem_cons_succ]
      try simp only [List.getElem_cons_zero]
      try simp only [List.setIfInBounds_toArray]
      try simp only [List.set_cons_succ, List.set_cons_zero]
      refine wpAnyH_take (i := 2) (v := .int .i64 (i : Int)) rfl (by kernel_rfl) (by kernel_rfl) (by kernel_rfl) (fun _ _ _ h => h) (Or.inl ⟨by kernel_rfl, fun w1 hSw => by clear hHeld; obtain ⟨f0, f1, f2, f3, f4, f5, f6, f7, f8, f9, f10, f11, f12, f13, f14, f15, f16, f17, f18, f19, f20, f21⟩ := HCe.out _ hSw; go_simp⟩) hHeld ?_
      try simp only [Act.put]
      try simp only [List.getElem_toArray]
      try simp only [List.getElem_cons_succ]
      try simp only [List.getElem_cons_zero]
      try simp only [List.setIfInBounds_toArray]
      try simp only [List.set_cons_succ, List.set_cons_zero]
      refine wpAnyH_take (i := 3) (v := .pointer (some ⟨g1, i * 10, none⟩)) rfl (by kernel_rfl) (by kernel_rfl) (by kernel_rfl) (fun _ _ _ h => h) (Or.inl ⟨by kernel_rfl, fun w1 hSw => by clear hHeld; obtain ⟨f0, f1, f2, f3, f4, f5, f6, f7, f8, f9, f10, f11, f12, f13, f14, f15, f16, f17, f18, f19, f20, f21⟩ := HCe.out _ hSw; go_simp⟩) hHeld ?_
      try simp only [Act.put]
      try simp only [List.getElem_toArray]
      try simp only [List.getElem_cons_succ]
      try simp only [List.getElem_cons_zero]
      try simp only [List.setIfInBounds_toArray]
      try simp only [List.set_cons_succ, List.set_cons_zero]
      refine wpAnyH_take (i := 4) (v := .agg #[.int .i64 r.job, .int .i64 r.st, .int .i64 r.att, .int .i64 r.bdg, .int .i64 r.node, .int .i64 r.life, .int .i64 r.code, .int .u64 r.bits, .string pr, .slice p1 n c1]) rfl (by kernel_rfl) (by kernel_rfl) (by kernel_rfl) (fun _ _ _ h => h) (Or.inl ⟨by kernel_rfl, fun w1 hSw => by clear hHeld; obtain ⟨f0, f1, f2, f3, f4, f5, f6, f7, f8, f9, f10, f11, f12, f13, f14, f15, f16, f17, f18, f19, f20, f21⟩ := HCe.out _ hSw; go_simp⟩) hHeld ?_
      try simp only [Act.put]
      try simp only [List.getElem_toArray]
      try simp only [List.getElem_cons_succ]
      try simp only [List.getElem_cons_zero]
      try simp only [List.setIfInBounds_toArray]
      try simp only [List.set_cons_succ, List.set_cons_zero]
      refine wpAnyH_take (i := 5) (v := .pointer (some ⟨w.heap.size + 1, 1, none⟩)) rfl (by kernel_rfl) (by kernel_rfl) (by kernel_rfl) (fun _ _ _ h => h) (Or.inl ⟨by kernel_rfl, fun w1 hSw => by clear hHeld; obtain ⟨f0, f1, f2, f3, f4, f5, f6, f7, f8, f9, f10, f11, f12, f13, f14, f15, f16, f17, f18, f19, f20, f21⟩ := HCe.out _ hSw; go_simp⟩) hHeld ?_
      try simp only [Act.put]
      try simp only [List.getElem_toArray]
      try simp only [List.getElem_cons_succ]
      try simp only [List.getElem_cons_zero]
      try simp only [List.setIfInBounds_toArray]
      try simp only [List.set_cons_succ, List.set_cons_zero]
      refine wpAnyH_take (i := 6) (v := .slice (some ⟨g2, 0, none⟩) N k2) rfl (by kernel_rfl) (by kernel_rfl) (by kernel_rfl) (fun _ _ _ h => h) (Or.inl ⟨by kernel_rfl, fun w1 hSw => by clear hHeld; obtain ⟨f0, f1, f2, f3, f4, f5, f6, f7, f8, f9, f10, f11, f12, f13, f14, f15, f16, f17, f18, f19, f20, f21⟩ := HCe.out _ hSw; go_simp⟩) hHeld ?_
      try simp only [Act.put]
      try simp only [List.getElem_toArray]
      try simp only [List.getElem_cons_succ]
      try simp only [List.getElem_cons_zero]
      try simp only [List.setIfInBounds_toArray]
      try simp only [List.set_cons_succ, List.set_cons_zero]
      refine wpAnyH_take (i := 7) (v := .int .i64 (i : Int)) rfl (by kernel_rfl) (by kernel_rfl) (by kernel_rfl) (fun _ _ _ h => h) (Or.inl ⟨by kernel_rfl, fun w1 hSw => by clear hHeld; obtain ⟨f0, f1, f2, f3, f4, f5, f6, f7, f8, f9, f10, f11, f12, f13, f14, f15, f16, f17, f18, f19, f20, f21⟩ := HCe.out _ hSw; go_simp⟩) hHeld ?_
      try simp only [Act.put]
      try simp only [List.getElem_toArray]
      try simp only [List.getElem_cons_succ]
      try simp only [List.getElem_cons_zero]
      try simp only [List.setIfInBounds_toArray]
      try simp only [List.set_cons_succ, List.set_cons_zero]
      refine wpAnyH_take (i := 8) (v := .pointer (some ⟨g2, i * 10, none⟩)) rfl (by kernel_rfl) (by kernel_rfl) (by kernel_rfl) (fun _ _ _ h => h) (Or.inl ⟨by kernel_rfl, fun w1 hSw => by clear hHeld; obtain ⟨f0, f1, f2, f3, f4, f5, f6, f7, f8, f9, f10, f11, f12, f13, f14, f15, f16, f17, f18, f19, f20, f21⟩ := HCe.out _ hSw; go_simp⟩) hHeld ?_
      try simp only [Act.put]
      try simp only [List.getElem_toArray]
      try simp only [List.getElem_cons_succ]
      try simp only [List.getElem_cons_zero]
      try simp only [List.setIfInBounds_toArray]
      try simp only [List.set_cons_succ, List.set_cons_zero]
      refine wpAnyH_take (i := 9) (v := .agg #[.int .i64 r.job, .int .i64 r.st, .int .i64 r.att, .int .i64 r.bdg, .int .i64 r.node, .int .i64 r.life, .int .i64 r.code, .int .u64 r.bits, .string pr, .slice p2 n c2]) rfl (by kernel_rfl) (by kernel_rfl) (by kernel_rfl) (fun _ _ _ h => h) (Or.inl ⟨by kernel_rfl, fun w1 hSw => by clear hHeld; obtain ⟨f0, f1, f2, f3, f4, f5, f6, f7, f8, f9, f10, f11, f12, f13, f14, f15, f16, f17, f18, f19, f20, f21⟩ := HCe.out _ hSw; go_simp⟩) hHeld ?_
      try simp only [Act.put]
      try simp only [List.getElem_toArray]
      try simp only [List.getElem_cons_succ]
      try simp only [List.getElem_cons_zero]
      try simp only [List.setIfInBounds_toArray]
      try simp only [List.set_cons_succ, List.set_cons_zero]
      refine wpAnyH_ready (rs := [10]) (by kernel_rfl) (by simp) ?_
      refine AllReadyH.cons rfl (fun K hK => ?_) AllReadyH.nil
      go_simp
      refine (HP.out _ hHeld.1).mono ?_
      rintro e V1 ⟨rfl, hb⟩
      have HS1 := hide (⟨hHeld.1.trans (hb.mono hHeld.1.size), (hb.block _ (lt_of_block hHeld.2.1)).trans hHeld.2.1, (hb.block _ (lt_of_block hHeld.2.2)).trans hHeld.2.2⟩ : _ ∧ _ ∧ _)
      clear hb
      refine hK.out _ _ (HS1.out) (fun hHeld => ?_)
      clear hK K
      try simp only [Act.put]
      try simp only [List.getElem_toArray]
      try simp only [List.getElem_cons_succ]
      try simp only [List.getElem_cons_zero]
      try simp only [List.setIfInBounds_toArray]
      try simp only [List.set_cons_succ, List.set_cons_zero]
      refine wpAnyH_take (i := 11) (v := .bool true) rfl (by kernel_rfl) (by kernel_rfl) (by kernel_rfl) (fun _ _ _ h => h) (Or.inl ⟨by kernel_rfl, fun w1 hSw => by clear hHeld; obtain ⟨f0, f1, f2, f3, f4, f5, f6, f7, f8, f9, f10, f11, f12, f13, f14, f15, f16, f17, f18, f19, f20, f21⟩ := HCe.out _ hSw; go_simp⟩) hHeld ?_
      try simp only [Act.put]
      try simp only [List.getElem_toArray]
      try simp only [List.getElem_cons_succ]
      try simp only [List.getElem_cons_zero]
      try simp only [List.setIfInBounds_toArray]
      try simp only [List.set_cons_succ, List.set_cons_zero]
      refine wpAnyH_done (by kernel_rfl) ?_ _
      have HBf := hide HS1.out.1
      have HV1f := hide HS1.out.2.1
      have HV2f := hide HS1.out.2.2
      clear HS1 hHeld HP HCe HBr HV1 HV2
      go_wp2_with fail
      go_roundw
      case rel => exact ⟨i + 1, by go_num, by omega, HBf, HV1f, HV2f⟩
      case measure => simp only [intOf]; omega
    · obtain rfl : i = N := by omega
      have hii : ¬ ((i : Int) < (i : Int)) := by omega
      clear HJ1 HJ2 HV1' HV2' HW
      go_wp2_with fail
      go_ret
      exact ⟨rfl, HBr.out⟩
end Go.Proofs.YtepondcflkledaaGreat.S
end

section
namespace Go.Proofs.YtepondcflkledaaGreat.S
set_option maxRecDepth 20000
open Go.RowKit
open Rc (Ch)
open Q (Rr rr0 Qm Ft Mv)
section
variable {O : Nat → Prop} {base : Nat} {w w0 : World} {kb qb : Nat} {v : Value} {T : Nat → Value} {m : Int} {s : Sx} {c : Ch} {t : Value}
set_option maxHeartbeats 4000000 in
set_option maxRecDepth 20000 in
theorem take_1 (h : Kp O base w kb qb v T m s) (_ : Wf m s) (_ : ∀ g, base ≤ g → O g) (hT : Tx w0 t c.tx) (hB0 : Below base w0 w) (hb0 : w0.heap.size ≤ base) (hl : c.tx.length ≤ 140737488351232) (hc : Rc.check c = 0) (hk : c.k = 1) :
    Calls Tryz.prog 35 #[.pointer (some ⟨kb, 0, none⟩), .agg (chC c t)] w (TP O base m s c kb qb w) := by
  obtain ⟨q, cq, rfl, -, -⟩ := tx_src hT
  have HD : Hid (∀ V, Kp O base V kb qb v T m s → Below base w V → Calls Tryz.prog 96 #[.pointer (some ⟨kb, 0, none⟩), .agg (chC c (.slice q c.tx.length cq))] V (TP O base m s c kb qb V)) := hide fun V hV hb => d_reserve hV hc hk
  have HDo := hide (fun V => doings_any V)
  have HCk : Hid (∀ V, Below base w V → Calls Tryz.prog 64 #[.agg (chC c (.slice q c.tx.length cq))] V fun e w' => e = .returned (.int .i64 0) ∧ Below V.heap.size V w') := hide fun V hV => by
    have := check_any c (.slice q c.tx.length cq) V (hT.below (hB0.trans hV) hb0) hl
    rw [hc] at this
    exact this
  have hlt := h.lt
  have hlow := h.low
  have hHK := h.below (below_alloc w (.cells (chC c (.slice q c.tx.length cq)) 78))
  have hHB : Below base w (w.alloc (.cells (chC c (.slice q c.tx.length cq)) 78)) := (Below.refl _ w).alloc (by omega) _
  have hHN : (w.alloc (.cells (chC c (.slice q c.tx.length cq)) 78)).heap[w.heap.size]? = some (.cells (chC c (.slice q c.tx.length cq)) 78 (0, 0)) := heap_alloc_new w _
  have hsz := World.size_alloc w (.cells (chC c (.slice q c.tx.length cq)) 78)
  generalize c.tx.length = n at *
  simp only [chC] at hHK hHB hHN hsz HCk HD
  rw [hk] at hHK hHB hHN hsz HCk HD
  have HK := hide hHK
  have HB := hide hHB
  have HN := hide hHN
  have HCe : Hid (∀ V : World, V.heap[w.heap.size]? = some (.cells #[.int .i64 1, .int .i64 c.n, .int .i64 c.jo, .int .i64 c.ba, .int .i64 c.sl, .int .i64 c.li, .int .i64 c.rc, .int .u64 (c.rb : Int), .string c.pr, .slice q n cq] 78 (0, 0)) → V.cell? ⟨w.heap.size, 0, none⟩ = some (.int .i64 1) ∧ V.cell? ⟨w.heap.size, 1, none⟩ = some (.int .i64 c.n) ∧ V.cell? ⟨w.heap.size, 2, none⟩ = some (.int .i64 c.jo) ∧ V.cell? ⟨w.heap.size, 3, none⟩ = some (.int .i64 c.ba) ∧ V.cell? ⟨w.heap.size, 4, none⟩ = some (.int .i64 c.sl) ∧ V.cell? ⟨w.heap.size, 5, none⟩ = some (.int .i64 c.li) ∧ V.cell? ⟨w.heap.size, 6, none⟩ = some (.int .i64 c.rc) ∧ V.cell? ⟨w.heap.size, 7, none⟩ = some (.int .u64 (c.rb : Int)) ∧ V.cell? ⟨w.heap.size, 8, none⟩ = some (.string c.pr) ∧ V.cell? ⟨w.heap.size, 9, none⟩ = some (.slice q n cq)) := hide fun V h1 => by simp [World.cell?, h1]
  obtain ⟨a0, a1, a2, a3, a4, a5, a6, a7, a8, a9⟩ := HCe.out _ HN.out
  clear h hT hB0 hb0 hl hHK hHB hHN hc
  have hix : ∀ V : World, (Instr.index 137 (.agg #[.nilFunc, .func (.func 96) #[] #[], .func (.func 97) #[] #[], .func (.func 98) #[] #[], .func (.func 99) #[] #[], .func (.func 100) #[] #[], .func (.func 101) #[] #[]]) (.int .i64 1)).run Tryz.prog V = .ok (.func (.func 96) #[] #[]) V := fun V => by kernel_rfl
  go_enter Tryz.func35, Tryz.ntmps35
  simp only [chC]
  rw [hk]
  clear hk
  go_upto_region 1 with fail
  generalize w.alloc _ = W at *
  go_region_with (first | (go_at_call 64; refine (HCk.out _ HB.out.drew).mono ?_; rintro e V1 ⟨rfl, hb1⟩; have HK1 := hide (HK.out.drew.below hb1); have HB1 := hide (HB.out.drew.trans (hb1.mono (Nat.le_trans hlow (Nat.le_of_lt HK.out.lt)))); have HN1 := hide ((hb1.block w.heap.size (lt_of_block HN.out)).trans HN.out); obtain ⟨b0, b1, b2, b3, b4, b5, b6, b7, b8, b9⟩ := HCe.out _ HN1.out; clear hb1) | (go_at_call 65; refine (HDo.out _).mono ?_; rintro e V2 ⟨rfl, hb2⟩; have HK2 := hide (HK1.out.below hb2); have HB2 := hide (HB1.out.trans (hb2.mono (Nat.le_trans hlow (Nat.le_of_lt HK1.out.lt)))); have HN2 := hide ((hb2.block w.heap.size (lt_of_block HN1.out)).trans HN1.out); obtain ⟨d0, d1, d2, d3, d4, d5, d6, d7, d8, d9⟩ := HCe.out _ HN2.out; clear hb2) | (go_at_call 96; refine (HD.out _ HK2.out HB2.out).mono ?_; rintro e V3 hTP; obtain ⟨r, rfl, hTP2⟩ := hTP.r; have HTP := hide hTP2; clear hTP hTP2))
  all_goals
    go_wp2_with fail
    go_ret
    exact HTP.out.trans HB2.out
end
end Go.Proofs.YtepondcflkledaaGreat.S
end
