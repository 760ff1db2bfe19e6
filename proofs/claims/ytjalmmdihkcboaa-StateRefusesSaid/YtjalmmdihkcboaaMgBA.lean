import Derived.Test.YtjalmmdihkcboaaMgAZ
import Derived.Test.YtjalmmdihkcboaaMgAX

section
namespace Go.Proofs.Ytjalmmdihkcboaa.S
open Go.RowKit
open Rc (Ch)
open Q (Rr rr0 Qm Ft Mv fnd hd qfind_any)

theorem results_pb {fn : Func} {p u : Tmp} (h : fn.results = #[.cell p 44, .tmp u]) (tmps : Array Value) (w : World) (g : Nat) (cs : Array Value) (hp : tmps.getD p undef = .pointer (some ⟨g, 0, none⟩)) (hg : w.heap[g]? = some (.cells cs 44 (0, 0))) (hc : cs.size = 10) :
    (results fn tmps).run Try.prog w = .ok (.tuple #[.agg cs, tmps.getD u undef]) w := by
  have he := run_loadVar_row (P := Try.prog) w g 44 44 cs (0, 0) _ hg Try.underlying44 rfl (by rw [hc]; kernel_rfl)
  rw [results_cell_tmp h, hp]
  simp [asAddr, he, Result.andThen]
/-- what Find answers -/
inductive FP (s : Sx) (g : Int) (w : World) (e : Ending) (w' : World) : Prop
  | no : fnd g s.L = rr0 → e = .returned (.tuple #[.agg #[.int .i64 0, .int .i64 0, .int .i64 0, .int .i64 0, .int .i64 0, .int .i64 0, .int .i64 0, .int .u64 0, .string ⟨#[]⟩, .slice none 0 0], .bool false]) → Below w.heap.size w w' → FP s g w e w'
  | yes (i : Nat) (t : Value) : fnd g s.L ≠ rr0 → i < s.L.length → fnd g s.L = s.L.getD i rr0 → e = .returned (.tuple #[.agg (plC (fnd g s.L) (s.pa i).pr t), .bool true]) → w'.ownsRow w.heap.size 9 1 t (s.pa i).lg.length (tcs (s.pa i).lg) → Below w.heap.size w w' → FP s g w e w'
set_option maxHeartbeats 300000 in
set_option maxRecDepth 20000 in
theorem find_any {N : Nat → Prop} {w : World} {b : Nat} {m : Int} {s : Sx} (h : Sd N w b m s) (hW : Wf m s) (g : Int) :
    Calls Try.prog 14 #[.pointer (some ⟨b, 0, none⟩), .int .i64 g] w (FP s g w) := by
  obtain ⟨kb, qb, v, T, hb, hK, hnk, hnf⟩ := h.ex
  have hbw := lt_of_block hb
  have hba := below_alloc w (.cells #[.int .i64 0, .int .i64 0, .int .i64 0, .int .i64 0, .int .i64 0, .int .i64 0, .int .i64 0, .int .u64 0, .string ⟨#[]⟩, .slice none 0 0] 44)
  have hs0 := World.size_alloc w (.cells #[.int .i64 0, .int .i64 0, .int .i64 0, .int .i64 0, .int .i64 0, .int .i64 0, .int .i64 0, .int .u64 0, .string ⟨#[]⟩, .slice none 0 0] 44)
  have hR0 := heap_alloc_new w (.cells #[.int .i64 0, .int .i64 0, .int .i64 0, .int .i64 0, .int .i64 0, .int .i64 0, .int .i64 0, .int .u64 0, .string ⟨#[]⟩, .slice none 0 0] 44)
  have HQ := hide (qfind_any (hK.below hba).q hW.ok.len g)
  have c0 : (w.alloc (.cells #[.int .i64 0, .int .i64 0, .int .i64 0, .int .i64 0, .int .i64 0, .int .i64 0, .int .i64 0, .int .u64 0, .string ⟨#[]⟩, .slice none 0 0] 44)).cell? ⟨b, 0, none⟩ = some (.pointer (some ⟨kb, 0, none⟩)) := Lib.cell?_alloc_some _ (by simp [World.cell?, hb])
  have c1 : (w.alloc (.cells #[.int .i64 0, .int .i64 0, .int .i64 0, .int .i64 0, .int .i64 0, .int .i64 0, .int .i64 0, .int .u64 0, .string ⟨#[]⟩, .slice none 0 0] 44)).cell? ⟨kb, 0, none⟩ = some (.pointer (some ⟨qb, 0, none⟩)) := Lib.cell?_alloc_some _ hK.c0
  have HK := hide (hK.below hba)
  have HBb := hide ((hba.block b hbw).trans hb)
  have HW := hide hW
  have HFi : Hid (fnd g s.L ≠ rr0 → ∃ i : Nat, i < s.L.length ∧ i < 8 ∧ fnd g s.L = s.L.getD i rr0 ∧ (fnd g s.L).job = (i : Int) + 1) := hide fun h0 => by
    obtain ⟨i, hi, e1, _, _, _, h5⟩ := fnd_in hW.ok h0
    have := hW.ok.len
    exact ⟨i, hi, by omega, by rw [e1, List.getD_eq_getElem?_getD, List.getElem?_eq_getElem hi]; rfl, h5⟩
  obtain ⟨r, hr⟩ : ∃ r, fnd g s.L = r := ⟨_, rfl⟩
  obtain ⟨D, hD⟩ : ∃ D, (!decide (r = rr0)) = D := ⟨_, rfl⟩
  rw [hr, hD] at HQ
  rw [hr] at HFi
  have HD := hide hD
  have HRr := hide hr
  clear h hK hnk hnf hb hW hr hD
  go_enter Try.func14, Try.ntmps14
  go_wp2_with fail
  have HB0 := hide hba
  have HR0 := hide hR0
  clear hba hR0
  generalize w.alloc _ = W at *
  refine HQ.out.mono ?_
  rintro e w1 ⟨rfl, hb1⟩
  have HK1 := hide (HK.out.below hb1)
  have HB1 := hide (HB0.out.trans (hb1.mono (by omega)))
  have HSb1 := hide ((hb1.block b (lt_of_block HBb.out)).trans HBb.out)
  have HR1' := hide ((hb1.block w.heap.size (lt_of_block HR0.out)).trans HR0.out)
  clear hb1 HQ HK HB0 HBb HR0 c0 c1
  have hsz1 := HB1.out.size
  have hRl1 := lt_of_block HR1'.out
  cases D with
  | false =>
    obtain ⟨q0, q1, q2, q3, q4, q5, q6, q7, q8, q9, z0, z1, z2, z3, z4, z5, z6, z7, z8, z9⟩ := pl_of HR1'.out
    have hr0 : r = rr0 := by have := HD.out; simpa using this
    have HRF0 := hide (pl_set HR1'.out (.int .i64 0) (.int .i64 0) (.int .i64 0) (.int .i64 0) (.int .i64 0) (.int .i64 0) (.int .i64 0) (.int .u64 0) (.string ⟨#[]⟩) (.slice none 0 0))
    have HBF0 := hide (pl_below HB1.out (Nat.le_refl _) (.int .i64 0) (.int .i64 0) (.int .i64 0) (.int .i64 0) (.int .i64 0) (.int .i64 0) (.int .i64 0) (.int .u64 0) (.string ⟨#[]⟩) (.slice none 0 0))
    have HRF := hide (((below_alloc _ (.cells #[.int .i64 r.job, .int .i64 r.st, .int .i64 r.att, .int .i64 r.bdg, .int .i64 r.node, .int .i64 r.life, .int .i64 r.code, .int .u64 r.bits] 41)).block _ (lt_of_block HRF0.out)).trans HRF0.out)
    have HBF := hide (HBF0.out.alloc HBF0.out.size (.cells #[.int .i64 r.job, .int .i64 r.st, .int .i64 r.att, .int .i64 r.bdg, .int .i64 r.node, .int .i64 r.life, .int .i64 r.code, .int .u64 r.bits] 41))
    have HR0 := hide hr0
    clear hr0 HK1 HSb1 HFi HW HRF0 HBF0
    go_wp2_with fail
    refine bodyPost_ret (results_pb rfl _ _ w.heap.size _ rfl HRF.out rfl) rfl ?_
    exact .no (HRr.out.trans HR0.out) rfl HBF.out
  | true =>
  have hr0 : r ≠ rr0 := by have := HD.out; simpa using this
  obtain ⟨i, hil, hi8, hgd, hjob⟩ := HFi.out hr0
  have hba := below_alloc w1 (.cells #[.int .i64 r.job, .int .i64 r.st, .int .i64 r.att, .int .i64 r.bdg, .int .i64 r.node, .int .i64 r.life, .int .i64 r.code, .int .u64 r.bits] 41)
  have HPl := hide (kplace_any (HK1.out.below hba).drew hi8 hjob (HW.out.pp i).2.1)
  have HSb := hide ((hba.block b (lt_of_block HSb1.out)).trans HSb1.out)
  have HSy0 := heap_alloc_new w1 (.cells #[.int .i64 r.job, .int .i64 r.st, .int .i64 r.att, .int .i64 r.bdg, .int .i64 r.node, .int .i64 r.life, .int .i64 r.code, .int .u64 r.bits] 41)
  obtain ⟨Y, hY⟩ : ∃ Y, w1.heap.size = Y := ⟨_, rfl⟩
  rw [hY] at HSy0
  have HSy := hide HSy0
  have HR := hide ((hba.block _ hRl1).trans HR1'.out)
  have HB : Hid (Below w.heap.size w (w1.alloc (.cells #[.int .i64 r.job, .int .i64 r.st, .int .i64 r.att, .int .i64 r.bdg, .int .i64 r.node, .int .i64 r.life, .int .i64 r.code, .int .u64 r.bits] 41))) := hide (HB1.out.alloc hsz1 _)
  have hYs : (w1.alloc (.cells #[.int .i64 r.job, .int .i64 r.st, .int .i64 r.att, .int .i64 r.bdg, .int .i64 r.node, .int .i64 r.life, .int .i64 r.code, .int .u64 r.bits] 41)).heap.size = Y + 1 := by rw [← hY]; exact World.size_alloc _ _
  have HX := hide (And.intro hr0 (And.intro hil hgd))
  obtain ⟨pr, hpr⟩ : ∃ pr, (s.pa i).pr = pr := ⟨_, rfl⟩
  have HPr := hide hpr
  rw [hpr] at HPl
  obtain ⟨n, hn⟩ : ∃ n, (s.pa i).lg.length = n := ⟨_, rfl⟩
  have HNl := hide hn
  rw [hn] at HPl
  rw [hY] at hRl1 hsz1
  clear HSy0 HSb1 HR1' HB1 HK1 HFi HW hba hr0 hil hgd hjob hpr hn
  go_upto_region 4 with fail
  generalize w1.alloc _ = W2 at *
  have hbl : b < W2.drew.heap.size := lt_of_block HSb.out
  have hYl : Y < W2.drew.heap.size := lt_of_block HSy.out
  have hRl : w.heap.size < W2.drew.heap.size := lt_of_block HR.out
  have hs2 : w.heap.size ≤ W2.drew.heap.size := HB.out.size
  have HCe : Hid (∀ w' : World, (fun w' => w'.heap[b]? = some (.cells #[.pointer (some ⟨kb, 0, none⟩)] 64 (0, 0)) ∧ w'.heap[Y]? = some (.cells #[.int .i64 r.job, .int .i64 r.st, .int .i64 r.att, .int .i64 r.bdg, .int .i64 r.node, .int .i64 r.life, .int .i64 r.code, .int .u64 r.bits] 41 (0, 0))) w' → w'.cell? ⟨b, 0, none⟩ = some (.pointer (some ⟨kb, 0, none⟩)) ∧ w'.cell? ⟨Y, 0, none⟩ = some (.int .i64 r.job) ∧ w'.cell? ⟨Y, 1, none⟩ = some (.int .i64 r.st) ∧ w'.cell? ⟨Y, 2, none⟩ = some (.int .i64 r.att) ∧ w'.cell? ⟨Y, 3, none⟩ = some (.int .i64 r.bdg) ∧ w'.cell? ⟨Y, 4, none⟩ = some (.int .i64 r.node) ∧ w'.cell? ⟨Y, 5, none⟩ = some (.int .i64 r.life) ∧ w'.cell? ⟨Y, 6, none⟩ = some (.int .i64 r.code) ∧ w'.cell? ⟨Y, 7, none⟩ = some (.int .u64 r.bits)) := hide fun w' hw => by
    obtain ⟨h1, h2⟩ := hw
    simp [World.cell?, h1, h2]
  refine wp_region_held_drew (S := fun w' => w'.heap[b]? = some (.cells #[.pointer (some ⟨kb, 0, none⟩)] 64 (0, 0)) ∧ w'.heap[Y]? = some (.cells #[.int .i64 r.job, .int .i64 r.st, .int .i64 r.att, .int .i64 r.bdg, .int .i64 r.node, .int .i64 r.life, .int .i64 r.code, .int .u64 r.bits] 41 (0, 0))) (by kernel_rfl) (⟨HSb.out, HSy.out⟩) (fun hHeld => ?_)
  refine wpAnyH_take (i := 0) (v := .pointer (some ⟨b, 0, none⟩)) rfl (by kernel_rfl) (by kernel_rfl) (by kernel_rfl) (fun _ _ _ h => h) (Or.inl ⟨by kernel_rfl, fun w1 hSw => by clear hHeld; obtain ⟨k0, k1, k2, k3, k4, k5, k6, k7, k8⟩ := HCe.out _ hSw; go_simp⟩) hHeld ?_
  try simp only [Act.put]
  try simp only [List.getElem_toArray]
  try simp only [List.getElem_cons_succ]
  try simp only [List.getElem_cons_zero]
  try simp only [List.setIfInBounds_toArray]
  try simp only [List.set_cons_succ, List.set_cons_zero]
  refine wpAnyH_take (i := 1) (v := .pointer (some ⟨b, 0, none⟩)) rfl (by kernel_rfl) (by kernel_rfl) (by kernel_rfl) (fun _ _ _ h => h) (Or.inl ⟨by kernel_rfl, fun w1 hSw => by clear hHeld; obtain ⟨k0, k1, k2, k3, k4, k5, k6, k7, k8⟩ := HCe.out _ hSw; go_simp⟩) hHeld ?_
  try simp only [Act.put]
  try simp only [List.getElem_toArray]
  try simp only [List.getElem_cons_succ]
  try simp only [List.getElem_cons_zero]
  try simp only [List.setIfInBounds_toArray]
  try simp only [List.set_cons_succ, List.set_cons_zero]
  refine wpAnyH_take (i := 2) (v := .pointer (some ⟨b, 0, none⟩)) rfl (by kernel_rfl) (by kernel_rfl) (by kernel_rfl) (fun _ _ _ h => h) (Or.inl ⟨by kernel_rfl, fun w1 hSw => by clear hHeld; obtain ⟨k0, k1, k2, k3, k4, k5, k6, k7, k8⟩ := HCe.out _ hSw; go_simp⟩) hHeld ?_
  try simp only [Act.put]
  try simp only [List.getElem_toArray]
  try simp only [List.getElem_cons_succ]
  try simp only [List.getElem_cons_zero]
  try simp only [List.setIfInBounds_toArray]
  try simp only [List.set_cons_succ, List.set_cons_zero]
  refine wpAnyH_take (i := 3) (v := .pointer (some ⟨kb, 0, none⟩)) rfl (by kernel_rfl) (by kernel_rfl) (by kernel_rfl) (fun _ _ _ h => h) (Or.inl ⟨by kernel_rfl, fun w1 hSw => by clear hHeld; obtain ⟨k0, k1, k2, k3, k4, k5, k6, k7, k8⟩ := HCe.out _ hSw; go_simp⟩) hHeld ?_
  try simp only [Act.put]
  try simp only [List.getElem_toArray]
  try simp only [List.getElem_cons_succ]
  try simp only [List.getElem_cons_zero]
  try simp only [List.setIfInBounds_toArray]
  try simp only [List.set_cons_succ, List.set_cons_zero]
  refine wpAnyH_take (i := 4) (v := .agg #[.int .i64 r.job, .int .i64 r.st, .int .i64 r.att, .int .i64 r.bdg, .int .i64 r.node, .int .i64 r.life, .int .i64 r.code, .int .u64 r.bits]) rfl (by kernel_rfl) (by kernel_rfl) (by kernel_rfl) (fun _ _ _ h => h) (Or.inl ⟨by kernel_rfl, fun w1 hSw => by clear hHeld; obtain ⟨k0, k1, k2, k3, k4, k5, k6, k7, k8⟩ := HCe.out _ hSw; go_simp⟩) hHeld ?_
  try simp only [Act.put]
  try simp only [List.getElem_toArray]
  try simp only [List.getElem_cons_succ]
  try simp only [List.getElem_cons_zero]
  try simp only [List.setIfInBounds_toArray]
  try simp only [List.set_cons_succ, List.set_cons_zero]
  refine wpAnyH_ready (rs := [5]) (by kernel_rfl) (by simp) ?_
  refine AllReadyH.cons rfl (fun K hK => ?_) AllReadyH.nil
  go_simp
  refine HPl.out.mono ?_
  rintro e V1 ⟨t7, rfl, ho, hb⟩
  have hn7 := own_slice ho
  obtain ⟨p7, c7, rfl⟩ := hn7
  have HO := hide ho
  have HB1 := hide (HB.out.drew.trans (hb.mono hs2))
  have HS1 := hide (⟨(hb.block _ hbl).trans HSb.out, (hb.block _ hYl).trans HSy.out⟩ : _ ∧ _)
  have HR1 := hide ((hb.block _ hRl).trans HR.out)
  clear ho hb
  simp only [plC]
  refine hK.out _ _ (HS1.out) (fun hHeld => ?_)
  clear hK K
  try simp only [Act.put]
  try simp only [List.getElem_toArray]
  try simp only [List.getElem_cons_succ]
  try simp only [List.getElem_cons_zero]
  try simp only [List.setIfInBounds_toArray]
  try simp only [List.set_cons_succ, List.set_cons_zero]
  refine wpAnyH_ready (rs := [6]) (by kernel_rfl) (by simp) ?_
  refine AllReadyH.cons rfl (fun K hK => ?_) AllReadyH.nil
  obtain ⟨q0, q1, q2, q3, q4, q5, q6, q7, q8, q9, z0, z1, z2, z3, z4, z5, z6, z7, z8, z9⟩ := pl_of HR1.out
  have hRl1 := lt_of_block HR1.out
  have HRF := hide (pl_set HR1.out (.int .i64 r.job) (.int .i64 r.st) (.int .i64 r.att) (.int .i64 r.bdg) (.int .i64 r.node) (.int .i64 r.life) (.int .i64 r.code) (.int .u64 r.bits) (.string pr) (.slice p7 n c7))
  have HSF := hide (⟨(pl_other V1 (B := w.heap.size) (g := b) (by omega) (.int .i64 r.job) (.int .i64 r.st) (.int .i64 r.att) (.int .i64 r.bdg) (.int .i64 r.node) (.int .i64 r.life) (.int .i64 r.code) (.int .u64 r.bits) (.string pr) (.slice p7 n c7)).trans HS1.out.1, (pl_other V1 (B := w.heap.size) (g := Y) (by omega) (.int .i64 r.job) (.int .i64 r.st) (.int .i64 r.att) (.int .i64 r.bdg) (.int .i64 r.node) (.int .i64 r.life) (.int .i64 r.code) (.int .u64 r.bits) (.string pr) (.slice p7 n c7)).trans HS1.out.2⟩ : _ ∧ _)
  have HBF := hide (pl_below HB1.out (Nat.le_refl _) (.int .i64 r.job) (.int .i64 r.st) (.int .i64 r.att) (.int .i64 r.bdg) (.int .i64 r.node) (.int .i64 r.life) (.int .i64 r.code) (.int .u64 r.bits) (.string pr) (.slice p7 n c7))
  go_simp
  refine hK.out _ _ (HSF.out) (fun hHeld => ?_)
  clear hK K
  try simp only [Act.put]
  try simp only [List.getElem_toArray]
  try simp only [List.getElem_cons_succ]
  try simp only [List.getElem_cons_zero]
  try simp only [List.setIfInBounds_toArray]
  try simp only [List.set_cons_succ, List.set_cons_zero]
  refine wpAnyH_take (i := 7) (v := .bool true) rfl (by kernel_rfl) (by kernel_rfl) (by kernel_rfl) (fun _ _ _ h => h) (Or.inl ⟨by kernel_rfl, fun w1 hSw => by clear hHeld; obtain ⟨k0, k1, k2, k3, k4, k5, k6, k7, k8⟩ := HCe.out _ hSw; go_simp⟩) hHeld ?_
  try simp only [Act.put]
  try simp only [List.getElem_toArray]
  try simp only [List.getElem_cons_succ]
  try simp only [List.getElem_cons_zero]
  try simp only [List.setIfInBounds_toArray]
  try simp only [List.set_cons_succ, List.set_cons_zero]
  refine wpAnyH_done (by kernel_rfl) ?_ _
  go_wp2_with fail
  refine bodyPost_ret (results_pb rfl _ _ w.heap.size _ rfl HRF.out rfl) rfl ?_
  refine .yes i (.slice p7 n c7) (by rw [HRr.out]; exact HX.out.1) HX.out.2.1 (by rw [HRr.out]; exact HX.out.2.2) (by rw [HRr.out, HPr.out]; rfl) ?_ HBF.out
  rw [HNl.out]
  exact own_weak (own_keep HO.out fun g hg => pl_other V1 (B := w.heap.size) (by have h1 : W2.heap.size ≤ g := (HO.out.lt g hg).1; have h2 : w.heap.size < W2.heap.size := hRl; omega) _ _ _ _ _ _ _ _ _ _) hs2
set_option maxHeartbeats 1000000 in
theorem reserved_any {N : Nat → Prop} {w : World} {b : Nat} {m : Int} {s : Sx} (h : Sd N w b m s) :
    Calls Try.prog 15 #[.pointer (some ⟨b, 0, none⟩)] w fun e w' => e = .returned (.int .i64 s.res) ∧ w' = w := by
  obtain ⟨kb, qb, v, T, hb, hK, hnk, hnf⟩ := h.ex
  have c0 : w.cell? ⟨b, 0, none⟩ = some (.pointer (some ⟨kb, 0, none⟩)) := by simp [World.cell?, hb]
  have c1 := hK.c1
  clear h hK hnk hnf hb
  go_enter Try.func15, Try.ntmps15
  go_wp2_with fail
  go_ret
  exact ⟨rfl, rfl⟩
end Go.Proofs.Ytjalmmdihkcboaa.S
end

section
namespace Go.Proofs.Ytjalmmdihkcboaa.S
open Go.RowKit
open Rc (Ch)
open Q (Rr rr0 Qm Ft Mv)

set_option maxHeartbeats 1000000 in
theorem texts_alike {w : World} {u v : Value} {l : List ByteArray} (hu : Tx w u l) (hv : Tx w v l) (hl : l.length ≤ 64) :
    Calls Try.prog 21 #[u, v] w fun e w' => e = .returned (.bool true) ∧ Below w.heap.size w w' := by
  obtain ⟨p, cap, rfl, h1⟩ := hu
  obtain ⟨q, cq, rfl, h2⟩ := hv
  have H1 := hide h1
  have H2 := hide h2
  clear h1 h2
  go_enter Try.func21, Try.ntmps21
  go_wp2
  go_loopw [5] (fun u wr => ∃ i n : Nat, u = .int .i64 (i : Int) ∧ i ≤ l.length ∧ wr = w.drewN n) (fun u _ => (l.length - (intOf u).toNat))
  case atStart => exact ⟨0, 0, rfl, Nat.zero_le _, rfl⟩
  case round =>
    obtain ⟨i, n, rfl, hi, rfl⟩ := hrel
    by_cases hil : i < l.length
    · obtain ⟨b1, o1, rfl, hl1, hc1⟩ := H1.out (by omega)
      obtain ⟨b2, o2, rfl, hl2, hc2⟩ := H2.out (by omega)
      have c0 := hc1 i hil
      have c1 := hc2 i hil
      generalize l[i]! = s at c0 c1
      clear hc1 hc2 H1 H2
      go_wp2
      go_quiet (fail)
      go_wp2
      exact ⟨⟨i + 1, _, by go_num, by omega, rfl⟩, by simp [intOf]; omega⟩
    · obtain rfl : i = l.length := by omega
      go_wp2
      go_ret
      exact ⟨rfl, below_drewN (Below.refl _ _) _⟩
end Go.Proofs.Ytjalmmdihkcboaa.S
end

section
namespace Go.Proofs.Ytjalmmdihkcboaa.S
open Go.RowKit
open Rc (Ch)
open Q (Rr rr0 Qm Ft Mv)
section
variable {O : Nat → Prop} {base : Nat} {w w0 : World} {kb qb : Nat} {v : Value} {T : Nat → Value} {m : Int} {s : Sx} {c : Ch} {t : Value}
set_option maxHeartbeats 4000000 in
set_option maxRecDepth 20000 in
theorem take_1 (h : Kp O base w kb qb v T m s) (_ : Wf m s) (_ : ∀ g, base ≤ g → O g) (hT : Tx w0 t c.tx) (hB0 : Below base w0 w) (hb0 : w0.heap.size ≤ base) (hl : c.tx.length ≤ 140737488351232) (hc : Rc.check c = 0) (hk : c.k = 1) :
    Calls Try.prog 19 #[.pointer (some ⟨kb, 0, none⟩), .agg (chC c t)] w (TP O base m s c kb qb w) := by
  obtain ⟨q, cq, rfl, -, -⟩ := tx_src hT
  have HD : Hid (∀ V, Kp O base V kb qb v T m s → Below base w V → Calls Try.prog 37 #[.pointer (some ⟨kb, 0, none⟩), .agg (chC c (.slice q c.tx.length cq))] V (TP O base m s c kb qb V)) := hide fun V hV hb => d_reserve hV hc hk
  have HDo := hide (fun V => doings_any V)
  have HCk : Hid (∀ V, Below base w V → Calls Try.prog 28 #[.agg (chC c (.slice q c.tx.length cq))] V fun e w' => e = .returned (.int .i64 0) ∧ Below V.heap.size V w') := hide fun V hV => by
    have := check_any c (.slice q c.tx.length cq) V (hT.below (hB0.trans hV) hb0) hl
    rw [hc] at this
    exact this
  have hlt := h.lt
  have hlow := h.low
  have hHK := h.below (below_alloc w (.cells (chC c (.slice q c.tx.length cq)) 53))
  have hHB : Below base w (w.alloc (.cells (chC c (.slice q c.tx.length cq)) 53)) := (Below.refl _ w).alloc (by omega) _
  have hHN : (w.alloc (.cells (chC c (.slice q c.tx.length cq)) 53)).heap[w.heap.size]? = some (.cells (chC c (.slice q c.tx.length cq)) 53 (0, 0)) := heap_alloc_new w _
  have hsz := World.size_alloc w (.cells (chC c (.slice q c.tx.length cq)) 53)
  generalize c.tx.length = n at *
  simp only [chC] at hHK hHB hHN hsz HCk HD
  rw [hk] at hHK hHB hHN hsz HCk HD
  have HK := hide hHK
  have HB := hide hHB
  have HN := hide hHN
  have HCe : Hid (∀ V : World, V.heap[w.heap.size]? = some (.cells #[.int .i64 1, .int .i64 c.n, .int .i64 c.jo, .int .i64 c.ba, .int .i64 c.sl, .int .i64 c.li, .int .i64 c.rc, .int .u64 (c.rb : Int), .string c.pr, .slice q n cq] 53 (0, 0)) → V.cell? ⟨w.heap.size, 0, none⟩ = some (.int .i64 1) ∧ V.cell? ⟨w.heap.size, 1, none⟩ = some (.int .i64 c.n) ∧ V.cell? ⟨w.heap.size, 2, none⟩ = some (.int .i64 c.jo) ∧ V.cell? ⟨w.heap.size, 3, none⟩ = some (.int .i64 c.ba) ∧ V.cell? ⟨w.heap.size, 4, none⟩ = some (.int .i64 c.sl) ∧ V.cell? ⟨w.heap.size, 5, none⟩ = some (.int .i64 c.li) ∧ V.cell? ⟨w.heap.size, 6, none⟩ = some (.int .i64 c.rc) ∧ V.cell? ⟨w.heap.size, 7, none⟩ = some (.int .u64 (c.rb : Int)) ∧ V.cell? ⟨w.heap.size, 8, none⟩ = some (.string c.pr) ∧ V.cell? ⟨w.heap.size, 9, none⟩ = some (.slice q n cq)) := hide fun V h1 => by simp [World.cell?, h1]
  obtain ⟨a0, a1, a2, a3, a4, a5, a6, a7, a8, a9⟩ := HCe.out _ HN.out
  clear h hT hB0 hb0 hl hHK hHB hHN hc
  have hix : ∀ V : World, (Instr.index 86 (.agg #[.nilFunc, .func (.func 37) #[] #[], .func (.func 38) #[] #[], .func (.func 39) #[] #[], .func (.func 40) #[] #[], .func (.func 41) #[] #[], .func (.func 42) #[] #[]]) (.int .i64 1)).run Try.prog V = .ok (.func (.func 37) #[] #[]) V := fun V => by kernel_rfl
  go_enter Try.func19, Try.ntmps19
  simp only [chC]
  rw [hk]
  clear hk
  go_upto_region 1 with fail
  generalize w.alloc _ = W at *
  go_region_with (first | (go_at_call 28; refine (HCk.out _ HB.out.drew).mono ?_; rintro e V1 ⟨rfl, hb1⟩; have HK1 := hide (HK.out.drew.below hb1); have HB1 := hide (HB.out.drew.trans (hb1.mono (Nat.le_trans hlow (Nat.le_of_lt HK.out.lt)))); have HN1 := hide ((hb1.block w.heap.size (lt_of_block HN.out)).trans HN.out); obtain ⟨b0, b1, b2, b3, b4, b5, b6, b7, b8, b9⟩ := HCe.out _ HN1.out; clear hb1) | (go_at_call 29; refine (HDo.out _).mono ?_; rintro e V2 ⟨rfl, hb2⟩; have HK2 := hide (HK1.out.below hb2); have HB2 := hide (HB1.out.trans (hb2.mono (Nat.le_trans hlow (Nat.le_of_lt HK1.out.lt)))); have HN2 := hide ((hb2.block w.heap.size (lt_of_block HN1.out)).trans HN1.out); obtain ⟨d0, d1, d2, d3, d4, d5, d6, d7, d8, d9⟩ := HCe.out _ HN2.out; clear hb2) | (go_at_call 37; refine (HD.out _ HK2.out HB2.out).mono ?_; rintro e V3 hTP; obtain ⟨r, rfl, hTP2⟩ := hTP.r; have HTP := hide hTP2; clear hTP hTP2))
  all_goals
    go_wp2_with fail
    go_ret
    exact HTP.out.trans HB2.out
end
end Go.Proofs.Ytjalmmdihkcboaa.S
end

section
namespace Go.Proofs.Ytjalmmdihkcboaa.S
open Go.RowKit
open Rc (Ch)
open Q (Rr rr0 Qm Ft Mv)
section
variable {O : Nat → Prop} {base : Nat} {w w0 : World} {kb qb : Nat} {v : Value} {T : Nat → Value} {m : Int} {s : Sx} {c : Ch} {t : Value}
set_option maxHeartbeats 4000000 in
set_option maxRecDepth 20000 in
theorem take_2 (h : Kp O base w kb qb v T m s) (hW : Wf m s) (_ : ∀ g, base ≤ g → O g) (hT : Tx w0 t c.tx) (hB0 : Below base w0 w) (hb0 : w0.heap.size ≤ base) (hl : c.tx.length ≤ 140737488351232) (hc : Rc.check c = 0) (hk : c.k = 2) :
    Calls Try.prog 19 #[.pointer (some ⟨kb, 0, none⟩), .agg (chC c t)] w (TP O base m s c kb qb w) := by
  obtain ⟨q, cq, rfl, -, -⟩ := tx_src hT
  have HD : Hid (∀ V, Kp O base V kb qb v T m s → Below base w V → Calls Try.prog 38 #[.pointer (some ⟨kb, 0, none⟩), .agg (chC c (.slice q c.tx.length cq))] V (TP O base m s c kb qb V)) := hide fun V hV hb => d_submit hV hW hc hk
  have HDo := hide (fun V => doings_any V)
  have HCk : Hid (∀ V, Below base w V → Calls Try.prog 28 #[.agg (chC c (.slice q c.tx.length cq))] V fun e w' => e = .returned (.int .i64 0) ∧ Below V.heap.size V w') := hide fun V hV => by
    have := check_any c (.slice q c.tx.length cq) V (hT.below (hB0.trans hV) hb0) hl
    rw [hc] at this
    exact this
  have hlt := h.lt
  have hlow := h.low
  have hHK := h.below (below_alloc w (.cells (chC c (.slice q c.tx.length cq)) 53))
  have hHB : Below base w (w.alloc (.cells (chC c (.slice q c.tx.length cq)) 53)) := (Below.refl _ w).alloc (by omega) _
  have hHN : (w.alloc (.cells (chC c (.slice q c.tx.length cq)) 53)).heap[w.heap.size]? = some (.cells (chC c (.slice q c.tx.length cq)) 53 (0, 0)) := heap_alloc_new w _
  have hsz := World.size_alloc w (.cells (chC c (.slice q c.tx.length cq)) 53)
  generalize c.tx.length = n at *
  simp only [chC] at hHK hHB hHN hsz HCk HD
  rw [hk] at hHK hHB hHN hsz HCk HD
  have HK := hide hHK
  have HB := hide hHB
  have HN := hide hHN
  have HCe : Hid (∀ V : World, V.heap[w.heap.size]? = some (.cells #[.int .i64 2, .int .i64 c.n, .int .i64 c.jo, .int .i64 c.ba, .int .i64 c.sl, .int .i64 c.li, .int .i64 c.rc, .int .u64 (c.rb : Int), .string c.pr, .slice q n cq] 53 (0, 0)) → V.cell? ⟨w.heap.size, 0, none⟩ = some (.int .i64 2) ∧ V.cell? ⟨w.heap.size, 1, none⟩ = some (.int .i64 c.n) ∧ V.cell? ⟨w.heap.size, 2, none⟩ = some (.int .i64 c.jo) ∧ V.cell? ⟨w.heap.size, 3, none⟩ = some (.int .i64 c.ba) ∧ V.cell? ⟨w.heap.size, 4, none⟩ = some (.int .i64 c.sl) ∧ V.cell? ⟨w.heap.size, 5, none⟩ = some (.int .i64 c.li) ∧ V.cell? ⟨w.heap.size, 6, none⟩ = some (.int .i64 c.rc) ∧ V.cell? ⟨w.heap.size, 7, none⟩ = some (.int .u64 (c.rb : Int)) ∧ V.cell? ⟨w.heap.size, 8, none⟩ = some (.string c.pr) ∧ V.cell? ⟨w.heap.size, 9, none⟩ = some (.slice q n cq)) := hide fun V h1 => by simp [World.cell?, h1]
  obtain ⟨a0, a1, a2, a3, a4, a5, a6, a7, a8, a9⟩ := HCe.out _ HN.out
  clear h hT hB0 hb0 hl hHK hHB hHN hc hW
  have hix : ∀ V : World, (Instr.index 86 (.agg #[.nilFunc, .func (.func 37) #[] #[], .func (.func 38) #[] #[], .func (.func 39) #[] #[], .func (.func 40) #[] #[], .func (.func 41) #[] #[], .func (.func 42) #[] #[]]) (.int .i64 2)).run Try.prog V = .ok (.func (.func 38) #[] #[]) V := fun V => by kernel_rfl
  go_enter Try.func19, Try.ntmps19
  simp only [chC]
  rw [hk]
  clear hk
  go_upto_region 1 with fail
  generalize w.alloc _ = W at *
  go_region_with (first | (go_at_call 28; refine (HCk.out _ HB.out.drew).mono ?_; rintro e V1 ⟨rfl, hb1⟩; have HK1 := hide (HK.out.drew.below hb1); have HB1 := hide (HB.out.drew.trans (hb1.mono (Nat.le_trans hlow (Nat.le_of_lt HK.out.lt)))); have HN1 := hide ((hb1.block w.heap.size (lt_of_block HN.out)).trans HN.out); obtain ⟨b0, b1, b2, b3, b4, b5, b6, b7, b8, b9⟩ := HCe.out _ HN1.out; clear hb1) | (go_at_call 29; refine (HDo.out _).mono ?_; rintro e V2 ⟨rfl, hb2⟩; have HK2 := hide (HK1.out.below hb2); have HB2 := hide (HB1.out.trans (hb2.mono (Nat.le_trans hlow (Nat.le_of_lt HK1.out.lt)))); have HN2 := hide ((hb2.block w.heap.size (lt_of_block HN1.out)).trans HN1.out); obtain ⟨d0, d1, d2, d3, d4, d5, d6, d7, d8, d9⟩ := HCe.out _ HN2.out; clear hb2) | (go_at_call 38; refine (HD.out _ HK2.out HB2.out).mono ?_; rintro e V3 hTP; obtain ⟨r, rfl, hTP2⟩ := hTP.r; have HTP := hide hTP2; clear hTP hTP2))
  all_goals
    go_wp2_with fail
    go_ret
    exact HTP.out.trans HB2.out
end
end Go.Proofs.Ytjalmmdihkcboaa.S
end

section
namespace Go.Proofs.Ytjalmmdihkcboaa.S
open Go.RowKit
open Rc (Ch)
open Q (Rr rr0 Qm Ft Mv)
section
variable {O : Nat → Prop} {base : Nat} {w w0 : World} {kb qb : Nat} {v : Value} {T : Nat → Value} {m : Int} {s : Sx} {c : Ch} {t : Value}
set_option maxHeartbeats 4000000 in
set_option maxRecDepth 20000 in
theorem take_3 (h : Kp O base w kb qb v T m s) (hW : Wf m s) (_ : ∀ g, base ≤ g → O g) (hT : Tx w0 t c.tx) (hB0 : Below base w0 w) (hb0 : w0.heap.size ≤ base) (hl : c.tx.length ≤ 140737488351232) (hc : Rc.check c = 0) (hk : c.k = 3) :
    Calls Try.prog 19 #[.pointer (some ⟨kb, 0, none⟩), .agg (chC c t)] w (TP O base m s c kb qb w) := by
  obtain ⟨q, cq, rfl, -, -⟩ := tx_src hT
  have HD : Hid (∀ V, Kp O base V kb qb v T m s → Below base w V → Calls Try.prog 39 #[.pointer (some ⟨kb, 0, none⟩), .agg (chC c (.slice q c.tx.length cq))] V (TP O base m s c kb qb V)) := hide fun V hV hb => d_grant hV hW hc hk
  have HDo := hide (fun V => doings_any V)
  have HCk : Hid (∀ V, Below base w V → Calls Try.prog 28 #[.agg (chC c (.slice q c.tx.length cq))] V fun e w' => e = .returned (.int .i64 0) ∧ Below V.heap.size V w') := hide fun V hV => by
    have := check_any c (.slice q c.tx.length cq) V (hT.below (hB0.trans hV) hb0) hl
    rw [hc] at this
    exact this
  have hlt := h.lt
  have hlow := h.low
  have hHK := h.below (below_alloc w (.cells (chC c (.slice q c.tx.length cq)) 53))
  have hHB : Below base w (w.alloc (.cells (chC c (.slice q c.tx.length cq)) 53)) := (Below.refl _ w).alloc (by omega) _
  have hHN : (w.alloc (.cells (chC c (.slice q c.tx.length cq)) 53)).heap[w.heap.size]? = some (.cells (chC c (.slice q c.tx.length cq)) 53 (0, 0)) := heap_alloc_new w _
  have hsz := World.size_alloc w (.cells (chC c (.slice q c.tx.length cq)) 53)
  generalize c.tx.length = n at *
  simp only [chC] at hHK hHB hHN hsz HCk HD
  rw [hk] at hHK hHB hHN hsz HCk HD
  have HK := hide hHK
  have HB := hide hHB
  have HN := hide hHN
  have HCe : Hid (∀ V : World, V.heap[w.heap.size]? = some (.cells #[.int .i64 3, .int .i64 c.n, .int .i64 c.jo, .int .i64 c.ba, .int .i64 c.sl, .int .i64 c.li, .int .i64 c.rc, .int .u64 (c.rb : Int), .string c.pr, .slice q n cq] 53 (0, 0)) → V.cell? ⟨w.heap.size, 0, none⟩ = some (.int .i64 3) ∧ V.cell? ⟨w.heap.size, 1, none⟩ = some (.int .i64 c.n) ∧ V.cell? ⟨w.heap.size, 2, none⟩ = some (.int .i64 c.jo) ∧ V.cell? ⟨w.heap.size, 3, none⟩ = some (.int .i64 c.ba) ∧ V.cell? ⟨w.heap.size, 4, none⟩ = some (.int .i64 c.sl) ∧ V.cell? ⟨w.heap.size, 5, none⟩ = some (.int .i64 c.li) ∧ V.cell? ⟨w.heap.size, 6, none⟩ = some (.int .i64 c.rc) ∧ V.cell? ⟨w.heap.size, 7, none⟩ = some (.int .u64 (c.rb : Int)) ∧ V.cell? ⟨w.heap.size, 8, none⟩ = some (.string c.pr) ∧ V.cell? ⟨w.heap.size, 9, none⟩ = some (.slice q n cq)) := hide fun V h1 => by simp [World.cell?, h1]
  obtain ⟨a0, a1, a2, a3, a4, a5, a6, a7, a8, a9⟩ := HCe.out _ HN.out
  clear h hT hB0 hb0 hl hHK hHB hHN hc hW
  have hix : ∀ V : World, (Instr.index 86 (.agg #[.nilFunc, .func (.func 37) #[] #[], .func (.func 38) #[] #[], .func (.func 39) #[] #[], .func (.func 40) #[] #[], .func (.func 41) #[] #[], .func (.func 42) #[] #[]]) (.int .i64 3)).run Try.prog V = .ok (.func (.func 39) #[] #[]) V := fun V => by kernel_rfl
  go_enter Try.func19, Try.ntmps19
  simp only [chC]
  rw [hk]
  clear hk
  go_upto_region 1 with fail
  generalize w.alloc _ = W at *
  go_region_with (first | (go_at_call 28; refine (HCk.out _ HB.out.drew).mono ?_; rintro e V1 ⟨rfl, hb1⟩; have HK1 := hide (HK.out.drew.below hb1); have HB1 := hide (HB.out.drew.trans (hb1.mono (Nat.le_trans hlow (Nat.le_of_lt HK.out.lt)))); have HN1 := hide ((hb1.block w.heap.size (lt_of_block HN.out)).trans HN.out); obtain ⟨b0, b1, b2, b3, b4, b5, b6, b7, b8, b9⟩ := HCe.out _ HN1.out; clear hb1) | (go_at_call 29; refine (HDo.out _).mono ?_; rintro e V2 ⟨rfl, hb2⟩; have HK2 := hide (HK1.out.below hb2); have HB2 := hide (HB1.out.trans (hb2.mono (Nat.le_trans hlow (Nat.le_of_lt HK1.out.lt)))); have HN2 := hide ((hb2.block w.heap.size (lt_of_block HN1.out)).trans HN1.out); obtain ⟨d0, d1, d2, d3, d4, d5, d6, d7, d8, d9⟩ := HCe.out _ HN2.out; clear hb2) | (go_at_call 39; refine (HD.out _ HK2.out HB2.out).mono ?_; rintro e V3 hTP; obtain ⟨r, rfl, hTP2⟩ := hTP.r; have HTP := hide hTP2; clear hTP hTP2))
  all_goals
    go_wp2_with fail
    go_ret
    exact HTP.out.trans HB2.out
end
end Go.Proofs.Ytjalmmdihkcboaa.S
end

section
namespace Go.Proofs.Ytjalmmdihkcboaa.S
open Go.RowKit
open Rc (Ch)
open Q (Rr rr0 Qm Ft Mv)
section
variable {O : Nat → Prop} {base : Nat} {w w0 : World} {kb qb : Nat} {v : Value} {T : Nat → Value} {m : Int} {s : Sx} {c : Ch} {t : Value}
set_option maxHeartbeats 4000000 in
set_option maxRecDepth 20000 in
theorem take_4 (h : Kp O base w kb qb v T m s) (hW : Wf m s) (hO : ∀ g, base ≤ g → O g) (hT : Tx w0 t c.tx) (hB0 : Below base w0 w) (hb0 : w0.heap.size ≤ base) (hl : c.tx.length ≤ 140737488351232) (hc : Rc.check c = 0) (hk : c.k = 4) :
    Calls Try.prog 19 #[.pointer (some ⟨kb, 0, none⟩), .agg (chC c t)] w (TP O base m s c kb qb w) := by
  obtain ⟨q, cq, rfl, -, -⟩ := tx_src hT
  have HD : Hid (∀ V, Kp O base V kb qb v T m s → Below base w V → Calls Try.prog 40 #[.pointer (some ⟨kb, 0, none⟩), .agg (chC c (.slice q c.tx.length cq))] V (TP O base m s c kb qb V)) := hide fun V hV hb => d_lengthen hV hW hO hT (hB0.trans hb) hb0 hc hk
  have HDo := hide (fun V => doings_any V)
  have HCk : Hid (∀ V, Below base w V → Calls Try.prog 28 #[.agg (chC c (.slice q c.tx.length cq))] V fun e w' => e = .returned (.int .i64 0) ∧ Below V.heap.size V w') := hide fun V hV => by
    have := check_any c (.slice q c.tx.length cq) V (hT.below (hB0.trans hV) hb0) hl
    rw [hc] at this
    exact this
  have hlt := h.lt
  have hlow := h.low
  have hHK := h.below (below_alloc w (.cells (chC c (.slice q c.tx.length cq)) 53))
  have hHB : Below base w (w.alloc (.cells (chC c (.slice q c.tx.length cq)) 53)) := (Below.refl _ w).alloc (by omega) _
  have hHN : (w.alloc (.cells (chC c (.slice q c.tx.length cq)) 53)).heap[w.heap.size]? = some (.cells (chC c (.slice q c.tx.length cq)) 53 (0, 0)) := heap_alloc_new w _
  have hsz := World.size_alloc w (.cells (chC c (.slice q c.tx.length cq)) 53)
  generalize c.tx.length = n at *
  simp only [chC] at hHK hHB hHN hsz HCk HD
  rw [hk] at hHK hHB hHN hsz HCk HD
  have HK := hide hHK
  have HB := hide hHB
  have HN := hide hHN
  have HCe : Hid (∀ V : World, V.heap[w.heap.size]? = some (.cells #[.int .i64 4, .int .i64 c.n, .int .i64 c.jo, .int .i64 c.ba, .int .i64 c.sl, .int .i64 c.li, .int .i64 c.rc, .int .u64 (c.rb : Int), .string c.pr, .slice q n cq] 53 (0, 0)) → V.cell? ⟨w.heap.size, 0, none⟩ = some (.int .i64 4) ∧ V.cell? ⟨w.heap.size, 1, none⟩ = some (.int .i64 c.n) ∧ V.cell? ⟨w.heap.size, 2, none⟩ = some (.int .i64 c.jo) ∧ V.cell? ⟨w.heap.size, 3, none⟩ = some (.int .i64 c.ba) ∧ V.cell? ⟨w.heap.size, 4, none⟩ = some (.int .i64 c.sl) ∧ V.cell? ⟨w.heap.size, 5, none⟩ = some (.int .i64 c.li) ∧ V.cell? ⟨w.heap.size, 6, none⟩ = some (.int .i64 c.rc) ∧ V.cell? ⟨w.heap.size, 7, none⟩ = some (.int .u64 (c.rb : Int)) ∧ V.cell? ⟨w.heap.size, 8, none⟩ = some (.string c.pr) ∧ V.cell? ⟨w.heap.size, 9, none⟩ = some (.slice q n cq)) := hide fun V h1 => by simp [World.cell?, h1]
  obtain ⟨a0, a1, a2, a3, a4, a5, a6, a7, a8, a9⟩ := HCe.out _ HN.out
  clear h hT hB0 hb0 hl hHK hHB hHN hc hO hW
  have hix : ∀ V : World, (Instr.index 86 (.agg #[.nilFunc, .func (.func 37) #[] #[], .func (.func 38) #[] #[], .func (.func 39) #[] #[], .func (.func 40) #[] #[], .func (.func 41) #[] #[], .func (.func 42) #[] #[]]) (.int .i64 4)).run Try.prog V = .ok (.func (.func 40) #[] #[]) V := fun V => by kernel_rfl
  go_enter Try.func19, Try.ntmps19
  simp only [chC]
  rw [hk]
  clear hk
  go_upto_region 1 with fail
  generalize w.alloc _ = W at *
  go_region_with (first | (go_at_call 28; refine (HCk.out _ HB.out.drew).mono ?_; rintro e V1 ⟨rfl, hb1⟩; have HK1 := hide (HK.out.drew.below hb1); have HB1 := hide (HB.out.drew.trans (hb1.mono (Nat.le_trans hlow (Nat.le_of_lt HK.out.lt)))); have HN1 := hide ((hb1.block w.heap.size (lt_of_block HN.out)).trans HN.out); obtain ⟨b0, b1, b2, b3, b4, b5, b6, b7, b8, b9⟩ := HCe.out _ HN1.out; clear hb1) | (go_at_call 29; refine (HDo.out _).mono ?_; rintro e V2 ⟨rfl, hb2⟩; have HK2 := hide (HK1.out.below hb2); have HB2 := hide (HB1.out.trans (hb2.mono (Nat.le_trans hlow (Nat.le_of_lt HK1.out.lt)))); have HN2 := hide ((hb2.block w.heap.size (lt_of_block HN1.out)).trans HN1.out); obtain ⟨d0, d1, d2, d3, d4, d5, d6, d7, d8, d9⟩ := HCe.out _ HN2.out; clear hb2) | (go_at_call 40; refine (HD.out _ HK2.out HB2.out).mono ?_; rintro e V3 hTP; obtain ⟨r, rfl, hTP2⟩ := hTP.r; have HTP := hide hTP2; clear hTP hTP2))
  all_goals
    go_wp2_with fail
    go_ret
    exact HTP.out.trans HB2.out
end
end Go.Proofs.Ytjalmmdihkcboaa.S
end

section
namespace Go.Proofs.Ytjalmmdihkcboaa.S
open Go.RowKit
open Rc (Ch)
open Q (Rr rr0 Qm Ft Mv)
section
variable {O : Nat → Prop} {base : Nat} {w w0 : World} {kb qb : Nat} {v : Value} {T : Nat → Value} {m : Int} {s : Sx} {c : Ch} {t : Value}
set_option maxHeartbeats 4000000 in
set_option maxRecDepth 20000 in
theorem take_5 (h : Kp O base w kb qb v T m s) (hW : Wf m s) (_ : ∀ g, base ≤ g → O g) (hT : Tx w0 t c.tx) (hB0 : Below base w0 w) (hb0 : w0.heap.size ≤ base) (hl : c.tx.length ≤ 140737488351232) (hc : Rc.check c = 0) (hk : c.k = 5) :
    Calls Try.prog 19 #[.pointer (some ⟨kb, 0, none⟩), .agg (chC c t)] w (TP O base m s c kb qb w) := by
  obtain ⟨q, cq, rfl, -, -⟩ := tx_src hT
  have HD : Hid (∀ V, Kp O base V kb qb v T m s → Below base w V → Calls Try.prog 41 #[.pointer (some ⟨kb, 0, none⟩), .agg (chC c (.slice q c.tx.length cq))] V (TP O base m s c kb qb V)) := hide fun V hV hb => d_expire hV hW hc hk
  have HDo := hide (fun V => doings_any V)
  have HCk : Hid (∀ V, Below base w V → Calls Try.prog 28 #[.agg (chC c (.slice q c.tx.length cq))] V fun e w' => e = .returned (.int .i64 0) ∧ Below V.heap.size V w') := hide fun V hV => by
    have := check_any c (.slice q c.tx.length cq) V (hT.below (hB0.trans hV) hb0) hl
    rw [hc] at this
    exact this
  have hlt := h.lt
  have hlow := h.low
  have hHK := h.below (below_alloc w (.cells (chC c (.slice q c.tx.length cq)) 53))
  have hHB : Below base w (w.alloc (.cells (chC c (.slice q c.tx.length cq)) 53)) := (Below.refl _ w).alloc (by omega) _
  have hHN : (w.alloc (.cells (chC c (.slice q c.tx.length cq)) 53)).heap[w.heap.size]? = some (.cells (chC c (.slice q c.tx.length cq)) 53 (0, 0)) := heap_alloc_new w _
  have hsz := World.size_alloc w (.cells (chC c (.slice q c.tx.length cq)) 53)
  generalize c.tx.length = n at *
  simp only [chC] at hHK hHB hHN hsz HCk HD
  rw [hk] at hHK hHB hHN hsz HCk HD
  have HK := hide hHK
  have HB := hide hHB
  have HN := hide hHN
  have HCe : Hid (∀ V : World, V.heap[w.heap.size]? = some (.cells #[.int .i64 5, .int .i64 c.n, .int .i64 c.jo, .int .i64 c.ba, .int .i64 c.sl, .int .i64 c.li, .int .i64 c.rc, .int .u64 (c.rb : Int), .string c.pr, .slice q n cq] 53 (0, 0)) → V.cell? ⟨w.heap.size, 0, none⟩ = some (.int .i64 5) ∧ V.cell? ⟨w.heap.size, 1, none⟩ = some (.int .i64 c.n) ∧ V.cell? ⟨w.heap.size, 2, none⟩ = some (.int .i64 c.jo) ∧ V.cell? ⟨w.heap.size, 3, none⟩ = some (.int .i64 c.ba) ∧ V.cell? ⟨w.heap.size, 4, none⟩ = some (.int .i64 c.sl) ∧ V.cell? ⟨w.heap.size, 5, none⟩ = some (.int .i64 c.li) ∧ V.cell? ⟨w.heap.size, 6, none⟩ = some (.int .i64 c.rc) ∧ V.cell? ⟨w.heap.size, 7, none⟩ = some (.int .u64 (c.rb : Int)) ∧ V.cell? ⟨w.heap.size, 8, none⟩ = some (.string c.pr) ∧ V.cell? ⟨w.heap.size, 9, none⟩ = some (.slice q n cq)) := hide fun V h1 => by simp [World.cell?, h1]
  obtain ⟨a0, a1, a2, a3, a4, a5, a6, a7, a8, a9⟩ := HCe.out _ HN.out
  clear h hT hB0 hb0 hl hHK hHB hHN hc hW
  have hix : ∀ V : World, (Instr.index 86 (.agg #[.nilFunc, .func (.func 37) #[] #[], .func (.func 38) #[] #[], .func (.func 39) #[] #[], .func (.func 40) #[] #[], .func (.func 41) #[] #[], .func (.func 42) #[] #[]]) (.int .i64 5)).run Try.prog V = .ok (.func (.func 41) #[] #[]) V := fun V => by kernel_rfl
  go_enter Try.func19, Try.ntmps19
  simp only [chC]
  rw [hk]
  clear hk
  go_upto_region 1 with fail
  generalize w.alloc _ = W at *
  go_region_with (first | (go_at_call 28; refine (HCk.out _ HB.out.drew).mono ?_; rintro e V1 ⟨rfl, hb1⟩; have HK1 := hide (HK.out.drew.below hb1); have HB1 := hide (HB.out.drew.trans (hb1.mono (Nat.le_trans hlow (Nat.le_of_lt HK.out.lt)))); have HN1 := hide ((hb1.block w.heap.size (lt_of_block HN.out)).trans HN.out); obtain ⟨b0, b1, b2, b3, b4, b5, b6, b7, b8, b9⟩ := HCe.out _ HN1.out; clear hb1) | (go_at_call 29; refine (HDo.out _).mono ?_; rintro e V2 ⟨rfl, hb2⟩; have HK2 := hide (HK1.out.below hb2); have HB2 := hide (HB1.out.trans (hb2.mono (Nat.le_trans hlow (Nat.le_of_lt HK1.out.lt)))); have HN2 := hide ((hb2.block w.heap.size (lt_of_block HN1.out)).trans HN1.out); obtain ⟨d0, d1, d2, d3, d4, d5, d6, d7, d8, d9⟩ := HCe.out _ HN2.out; clear hb2) | (go_at_call 41; refine (HD.out _ HK2.out HB2.out).mono ?_; rintro e V3 hTP; obtain ⟨r, rfl, hTP2⟩ := hTP.r; have HTP := hide hTP2; clear hTP hTP2))
  all_goals
    go_wp2_with fail
    go_ret
    exact HTP.out.trans HB2.out
end
end Go.Proofs.Ytjalmmdihkcboaa.S
end

section
namespace Go.Proofs.Ytjalmmdihkcboaa.S
open Go.RowKit
open Rc (Ch)
open Q (Rr rr0 Qm Ft Mv)
section
variable {O : Nat → Prop} {base : Nat} {w w0 : World} {kb qb : Nat} {v : Value} {T : Nat → Value} {m : Int} {s : Sx} {c : Ch} {t : Value}
set_option maxHeartbeats 4000000 in
set_option maxRecDepth 20000 in
theorem take_6 (h : Kp O base w kb qb v T m s) (hW : Wf m s) (_ : ∀ g, base ≤ g → O g) (hT : Tx w0 t c.tx) (hB0 : Below base w0 w) (hb0 : w0.heap.size ≤ base) (hl : c.tx.length ≤ 140737488351232) (hc : Rc.check c = 0) (hk : c.k = 6) :
    Calls Try.prog 19 #[.pointer (some ⟨kb, 0, none⟩), .agg (chC c t)] w (TP O base m s c kb qb w) := by
  obtain ⟨q, cq, rfl, -, -⟩ := tx_src hT
  have HD : Hid (∀ V, Kp O base V kb qb v T m s → Below base w V → Calls Try.prog 42 #[.pointer (some ⟨kb, 0, none⟩), .agg (chC c (.slice q c.tx.length cq))] V (TP O base m s c kb qb V)) := hide fun V hV hb => d_settle hV hW hc hk
  have HDo := hide (fun V => doings_any V)
  have HCk : Hid (∀ V, Below base w V → Calls Try.prog 28 #[.agg (chC c (.slice q c.tx.length cq))] V fun e w' => e = .returned (.int .i64 0) ∧ Below V.heap.size V w') := hide fun V hV => by
    have := check_any c (.slice q c.tx.length cq) V (hT.below (hB0.trans hV) hb0) hl
    rw [hc] at this
    exact this
  have hlt := h.lt
  have hlow := h.low
  have hHK := h.below (below_alloc w (.cells (chC c (.slice q c.tx.length cq)) 53))
  have hHB : Below base w (w.alloc (.cells (chC c (.slice q c.tx.length cq)) 53)) := (Below.refl _ w).alloc (by omega) _
  have hHN : (w.alloc (.cells (chC c (.slice q c.tx.length cq)) 53)).heap[w.heap.size]? = some (.cells (chC c (.slice q c.tx.length cq)) 53 (0, 0)) := heap_alloc_new w _
  have hsz := World.size_alloc w (.cells (chC c (.slice q c.tx.length cq)) 53)
  generalize c.tx.length = n at *
  simp only [chC] at hHK hHB hHN hsz HCk HD
  rw [hk] at hHK hHB hHN hsz HCk HD
  have HK := hide hHK
  have HB := hide hHB
  have HN := hide hHN
  have HCe : Hid (∀ V : World, V.heap[w.heap.size]? = some (.cells #[.int .i64 6, .int .i64 c.n, .int .i64 c.jo, .int .i64 c.ba, .int .i64 c.sl, .int .i64 c.li, .int .i64 c.rc, .int .u64 (c.rb : Int), .string c.pr, .slice q n cq] 53 (0, 0)) → V.cell? ⟨w.heap.size, 0, none⟩ = some (.int .i64 6) ∧ V.cell? ⟨w.heap.size, 1, none⟩ = some (.int .i64 c.n) ∧ V.cell? ⟨w.heap.size, 2, none⟩ = some (.int .i64 c.jo) ∧ V.cell? ⟨w.heap.size, 3, none⟩ = some (.int .i64 c.ba) ∧ V.cell? ⟨w.heap.size, 4, none⟩ = some (.int .i64 c.sl) ∧ V.cell? ⟨w.heap.size, 5, none⟩ = some (.int .i64 c.li) ∧ V.cell? ⟨w.heap.size, 6, none⟩ = some (.int .i64 c.rc) ∧ V.cell? ⟨w.heap.size, 7, none⟩ = some (.int .u64 (c.rb : Int)) ∧ V.cell? ⟨w.heap.size, 8, none⟩ = some (.string c.pr) ∧ V.cell? ⟨w.heap.size, 9, none⟩ = some (.slice q n cq)) := hide fun V h1 => by simp [World.cell?, h1]
  obtain ⟨a0, a1, a2, a3, a4, a5, a6, a7, a8, a9⟩ := HCe.out _ HN.out
  clear h hT hB0 hb0 hl hHK hHB hHN hc hW
  have hix : ∀ V : World, (Instr.index 86 (.agg #[.nilFunc, .func (.func 37) #[] #[], .func (.func 38) #[] #[], .func (.func 39) #[] #[], .func (.func 40) #[] #[], .func (.func 41) #[] #[], .func (.func 42) #[] #[]]) (.int .i64 6)).run Try.prog V = .ok (.func (.func 42) #[] #[]) V := fun V => by kernel_rfl
  go_enter Try.func19, Try.ntmps19
  simp only [chC]
  rw [hk]
  clear hk
  go_upto_region 1 with fail
  generalize w.alloc _ = W at *
  go_region_with (first | (go_at_call 28; refine (HCk.out _ HB.out.drew).mono ?_; rintro e V1 ⟨rfl, hb1⟩; have HK1 := hide (HK.out.drew.below hb1); have HB1 := hide (HB.out.drew.trans (hb1.mono (Nat.le_trans hlow (Nat.le_of_lt HK.out.lt)))); have HN1 := hide ((hb1.block w.heap.size (lt_of_block HN.out)).trans HN.out); obtain ⟨b0, b1, b2, b3, b4, b5, b6, b7, b8, b9⟩ := HCe.out _ HN1.out; clear hb1) | (go_at_call 29; refine (HDo.out _).mono ?_; rintro e V2 ⟨rfl, hb2⟩; have HK2 := hide (HK1.out.below hb2); have HB2 := hide (HB1.out.trans (hb2.mono (Nat.le_trans hlow (Nat.le_of_lt HK1.out.lt)))); have HN2 := hide ((hb2.block w.heap.size (lt_of_block HN1.out)).trans HN1.out); obtain ⟨d0, d1, d2, d3, d4, d5, d6, d7, d8, d9⟩ := HCe.out _ HN2.out; clear hb2) | (go_at_call 42; refine (HD.out _ HK2.out HB2.out).mono ?_; rintro e V3 hTP; obtain ⟨r, rfl, hTP2⟩ := hTP.r; have HTP := hide hTP2; clear hTP hTP2))
  all_goals
    go_wp2_with fail
    go_ret
    exact HTP.out.trans HB2.out
end
end Go.Proofs.Ytjalmmdihkcboaa.S
end
