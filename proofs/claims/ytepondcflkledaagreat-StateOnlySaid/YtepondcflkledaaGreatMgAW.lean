import Derived.Test.YtepondcflkledaaGreatMgAV
import Derived.Deep.DeepCutAuto

section
namespace Go.Proofs.YtepondcflkledaaGreat.S
set_option maxRecDepth 20000
open Go.RowKit
open Rc (Ch)
open Q (Rr rr0 nrow fnd grE grL exE exL seE seL exJ seJ hix gb rowR grt xp stl Qm Ft Mv sbE sbJ sbL submit_any grant_any expire_any settle_any qfind_any)

section
variable {O : Nat → Prop} {base : Nat} {w : World} {kb qb : Nat} {v : Value} {T : Nat → Value} {m : Int} {s : Sx} {c : Ch} {t : Value}
set_option maxHeartbeats 2000000 in
set_option maxRecDepth 20000 in
theorem d_grant (h : Kp O base w kb qb v T m s) (hW : Wf m s) (hc : Rc.check c = 0) (hk : c.k = 3) :
    Calls Tryz.prog 98 #[.pointer (some ⟨kb, 0, none⟩), .agg (chC c t)] w (TP O base m s c kb qb w) := by
  have hg := may_G ((Rc.check_iff c).1 hc) hk
  have HO := hide (one_3 (m := m) (s := s) hc hk)
  have hsl : IntKind.i64.wrap (2 + c.sl) = 2 + c.sl := by rw [IntKind.wrap_i64]; omega
  have hlt := h.lt
  have hlow := h.low
  have HF : Hid (∀ g, Ft qb v g → base ≤ g ∧ g < w.heap.size) := hide h.q.ftlt
  obtain ⟨i, hji⟩ : ∃ i : Nat, c.jo = (i : Int) + 1 := ⟨(c.jo - 1).toNat, by omega⟩
  have hi8 : i < 8 := by omega
  have hjx : jx c.jo = i := by unfold jx; omega
  rw [hjx] at HO
  have H0 : Hid (Kp O base ((w.alloc (.cells (chC c t) 78)).alloc (.cells #[.int .i64 (2 + c.sl), .int .i64 c.li] 80)) kb qb v T m s) := hide ((h.below (below_alloc w _)).below (below_alloc _ _))
  have hsz := World.size_alloc w (.cells (chC c t) 78)
  have HA : Hid (Below base w ((w.alloc (.cells (chC c t) 78)).alloc (.cells #[.int .i64 (2 + c.sl), .int .i64 c.li] 80))) := hide (((Below.refl _ w).alloc (by omega) _).alloc (by omega) _)
  have HS2 : Hid (((w.alloc (.cells (chC c t) 78)).alloc (.cells #[.int .i64 (2 + c.sl), .int .i64 c.li] 80)).heap[w.heap.size]? = some (.cells (chC c t) 78 (0, 0))) := hide (((below_alloc (w.alloc (.cells (chC c t) 78)) _).block _ (by omega)).trans (heap_alloc_new w _))
  have HS3 : Hid (((w.alloc (.cells (chC c t) 78)).alloc (.cells #[.int .i64 (2 + c.sl), .int .i64 c.li] 80)).heap[w.heap.size + 1]? = some (.cells #[.int .i64 (2 + c.sl), .int .i64 c.li] 80 (0, 0))) := hide (by rw [← hsz]; exact heap_alloc_new _ _)
  have hs2 := World.size_alloc (w.alloc (.cells (chC c t) 78)) (.cells #[.int .i64 (2 + c.sl), .int .i64 c.li] 80)
  rw [hsz] at hs2
  simp only [chC] at H0 HA HS2 HS3 hs2 hsz
  have H1 := H0
  have HS1 := hide H1.out.blk
  have hP := hW.len
  have HQ := hide (grant_any H1.out.drew.q hW.ok c.jo c.ba (2 + c.sl) c.li)
  have k0 := H1.out.c0
  have k1 := H1.out.c1
  have HCe : Hid (∀ w' : World, (fun w' => w'.heap[kb]? = some (.cells (kcs qb s.res s.pa T) 57 (0, 0)) ∧ w'.heap[w.heap.size]? = some (.cells #[.int .i64 c.k, .int .i64 c.n, .int .i64 c.jo, .int .i64 c.ba, .int .i64 c.sl, .int .i64 c.li, .int .i64 c.rc, .int .u64 (c.rb : Int), .string c.pr, t] 78 (0, 0)) ∧ w'.heap[w.heap.size + 1]? = some (.cells #[.int .i64 (2 + c.sl), .int .i64 c.li] 80 (0, 0))) w' → w'.cell? ⟨kb, 0, none⟩ = some (.pointer (some ⟨qb, 0, none⟩)) ∧ w'.cell? ⟨kb, 1, none⟩ = some (.int .i64 s.res) ∧ w'.cell? ⟨w.heap.size, 2, none⟩ = some (.int .i64 c.jo) ∧ w'.cell? ⟨w.heap.size, 3, none⟩ = some (.int .i64 c.ba) ∧ w'.cell? ⟨w.heap.size + 1, 0, none⟩ = some (.int .i64 (2 + c.sl)) ∧ w'.cell? ⟨w.heap.size + 1, 1, none⟩ = some (.int .i64 c.li)) := hide fun w' hw => by
    obtain ⟨h1, h2, h3⟩ := hw
    simp [World.cell?, h1, h2, h3, kcs]
  have HJ := hide hji
  clear h hc hk H0 hjx hji hg
  by_cases hb : s.res < c.ba
  · rw [if_pos (.inl hb)] at HO
    have b0 : decide (s.res < c.ba) = true := decide_eq_true hb
    have b1 : decide (c.ba > s.res) = true := decide_eq_true hb
    clear HQ
    go_enter Tryz.func98, Tryz.ntmps98
    simp only [chC]
    go_upto_region 2 with fail
    have q2 := (HCe.out _ ⟨HS1.out, HS2.out, HS3.out⟩)
    obtain ⟨q0, q1, q2, q3, q4, q5⟩ := q2
    generalize (w.alloc _).alloc _ = W at *
    go_quiet (fail)
    go_wp2_with fail
    go_ret
    exact .no HO.out rfl (below_drewN HA.out _)
  have b0 : decide (s.res < c.ba) = false := decide_eq_false hb
  have b1 : decide (c.ba > s.res) = false := decide_eq_false hb
  have hbw : base ≤ ((w.alloc (.cells #[.int .i64 c.k, .int .i64 c.n, .int .i64 c.jo, .int .i64 c.ba, .int .i64 c.sl, .int .i64 c.li, .int .i64 c.rc, .int .u64 (c.rb : Int), .string c.pr, t] 78)).alloc (.cells #[.int .i64 (2 + c.sl), .int .i64 c.li] 80)).heap.size := by omega
  have hAw : w.heap.size < ((w.alloc (.cells #[.int .i64 c.k, .int .i64 c.n, .int .i64 c.jo, .int .i64 c.ba, .int .i64 c.sl, .int .i64 c.li, .int .i64 c.rc, .int .u64 (c.rb : Int), .string c.pr, t] 78)).alloc (.cells #[.int .i64 (2 + c.sl), .int .i64 c.li] 80)).heap.size := by omega
  have hAx : w.heap.size + 1 < ((w.alloc (.cells #[.int .i64 c.k, .int .i64 c.n, .int .i64 c.jo, .int .i64 c.ba, .int .i64 c.sl, .int .i64 c.li, .int .i64 c.rc, .int .u64 (c.rb : Int), .string c.pr, t] 78)).alloc (.cells #[.int .i64 (2 + c.sl), .int .i64 c.li] 80)).heap.size := by omega
  by_cases he : grE s.L c.jo c.ba (2 + c.sl) c.li = 0
  · rw [if_neg (fun x => x.elim hb (fun y => y he))] at HO
    generalize grL s.L c.jo c.ba (2 + c.sl) c.li = L' at *
    generalize grE s.L c.jo c.ba (2 + c.sl) c.li = G at *
    subst he
    clear hW
    go_enter Tryz.func98, Tryz.ntmps98
    simp only [chC]
    go_upto_region 2 with fail
    generalize (w.alloc _).alloc _ = W at *
    refine wp_region_held_drew (S := fun w' => w'.heap[kb]? = some (.cells (kcs qb s.res s.pa T) 57 (0, 0)) ∧ w'.heap[w.heap.size]? = some (.cells #[.int .i64 c.k, .int .i64 c.n, .int .i64 c.jo, .int .i64 c.ba, .int .i64 c.sl, .int .i64 c.li, .int .i64 c.rc, .int .u64 (c.rb : Int), .string c.pr, t] 78 (0, 0)) ∧ w'.heap[w.heap.size + 1]? = some (.cells #[.int .i64 (2 + c.sl), .int .i64 c.li] 80 (0, 0))) (by kernel_rfl) (⟨HS1.out, HS2.out, HS3.out⟩) (fun hHeld => ?_)
    refine wpAnyH_take (i := 0) (v := .pointer (some ⟨w.heap.size, 3, none⟩)) rfl (by kernel_rfl) (by kernel_rfl) (by kernel_rfl) (fun _ _ _ h => h) (Or.inl ⟨by kernel_rfl, fun w1 hSw => by clear hHeld; obtain ⟨k0, k1, k2, k3, k4, k5⟩ := HCe.out _ hSw; go_simp⟩) hHeld ?_
    try simp only [Act.put]
    try simp only [List.getElem_toArray]
    try simp only [List.getElem_cons_succ]
    try simp only [List.getElem_cons_zero]
    try simp only [List.setIfInBounds_toArray]
    try simp only [List.set_cons_succ, List.set_cons_zero]
    refine wpAnyH_take (i := 1) (v := .int .i64 c.ba) rfl (by kernel_rfl) (by kernel_rfl) (by kernel_rfl) (fun _ _ _ h => h) (Or.inl ⟨by kernel_rfl, fun w1 hSw => by clear hHeld; obtain ⟨k0, k1, k2, k3, k4, k5⟩ := HCe.out _ hSw; go_simp⟩) hHeld ?_
    try simp only [Act.put]
    try simp only [List.getElem_toArray]
    try simp only [List.getElem_cons_succ]
    try simp only [List.getElem_cons_zero]
    try simp only [List.setIfInBounds_toArray]
    try simp only [List.set_cons_succ, List.set_cons_zero]
    refine wpAnyH_take (i := 2) (v := .pointer (some ⟨kb, 0, none⟩)) rfl (by kernel_rfl) (by kernel_rfl) (by kernel_rfl) (fun _ _ _ h => h) (Or.inl ⟨by kernel_rfl, fun w1 hSw => by clear hHeld; obtain ⟨k0, k1, k2, k3, k4, k5⟩ := HCe.out _ hSw; go_simp⟩) hHeld ?_
    try simp only [Act.put]
    try simp only [List.getElem_toArray]
    try simp only [List.getElem_cons_succ]
    try simp only [List.getElem_cons_zero]
    try simp only [List.setIfInBounds_toArray]
    try simp only [List.set_cons_succ, List.set_cons_zero]
    refine wpAnyH_take (i := 3) (v := .pointer (some ⟨kb, 0, none⟩)) rfl (by kernel_rfl) (by kernel_rfl) (by kernel_rfl) (fun _ _ _ h => h) (Or.inl ⟨by kernel_rfl, fun w1 hSw => by clear hHeld; obtain ⟨k0, k1, k2, k3, k4, k5⟩ := HCe.out _ hSw; go_simp⟩) hHeld ?_
    try simp only [Act.put]
    try simp only [List.getElem_toArray]
    try simp only [List.getElem_cons_succ]
    try simp only [List.getElem_cons_zero]
    try simp only [List.setIfInBounds_toArray]
    try simp only [List.set_cons_succ, List.set_cons_zero]
    refine wpAnyH_take (i := 4) (v := .pointer (some ⟨kb, 1, none⟩)) rfl (by kernel_rfl) (by kernel_rfl) (by kernel_rfl) (fun _ _ _ h => h) (Or.inl ⟨by kernel_rfl, fun w1 hSw => by clear hHeld; obtain ⟨k0, k1, k2, k3, k4, k5⟩ := HCe.out _ hSw; go_simp⟩) hHeld ?_
    try simp only [Act.put]
    try simp only [List.getElem_toArray]
    try simp only [List.getElem_cons_succ]
    try simp only [List.getElem_cons_zero]
    try simp only [List.setIfInBounds_toArray]
    try simp only [List.set_cons_succ, List.set_cons_zero]
    refine wpAnyH_take (i := 5) (v := .int .i64 s.res) rfl (by kernel_rfl) (by kernel_rfl) (by kernel_rfl) (fun _ _ _ h => h) (Or.inl ⟨by kernel_rfl, fun w1 hSw => by clear hHeld; obtain ⟨k0, k1, k2, k3, k4, k5⟩ := HCe.out _ hSw; go_simp⟩) hHeld ?_
    try simp only [Act.put]
    try simp only [List.getElem_toArray]
    try simp only [List.getElem_cons_succ]
    try simp only [List.getElem_cons_zero]
    try simp only [List.setIfInBounds_toArray]
    try simp only [List.set_cons_succ, List.set_cons_zero]
    refine wpAnyH_take (i := 6) (v := .bool false) rfl (by kernel_rfl) (by kernel_rfl) (by kernel_rfl) (fun _ _ _ h => h) (Or.inl ⟨by kernel_rfl, fun w1 hSw => by clear hHeld; obtain ⟨k0, k1, k2, k3, k4, k5⟩ := HCe.out _ hSw; go_simp⟩) hHeld ?_
    try simp only [Act.put]
    try simp only [List.getElem_toArray]
    try simp only [List.getElem_cons_succ]
    try simp only [List.getElem_cons_zero]
    try simp only [List.setIfInBounds_toArray]
    try simp only [List.set_cons_succ, List.set_cons_zero]
    refine wpAnyH_take (i := 7) (v := .bool false) rfl (by kernel_rfl) (by kernel_rfl) (by kernel_rfl) (fun _ _ _ h => h) (Or.inl ⟨by kernel_rfl, fun w1 hSw => by clear hHeld; obtain ⟨k0, k1, k2, k3, k4, k5⟩ := HCe.out _ hSw; go_simp⟩) hHeld ?_
    try simp only [Act.put]
    try simp only [List.getElem_toArray]
    try simp only [List.getElem_cons_succ]
    try simp only [List.getElem_cons_zero]
    try simp only [List.setIfInBounds_toArray]
    try simp only [List.set_cons_succ, List.set_cons_zero]
    refine wpAnyH_take (i := 8) (v := .pointer (some ⟨kb, 0, none⟩)) rfl (by kernel_rfl) (by kernel_rfl) (by kernel_rfl) (fun _ _ _ h => h) (Or.inl ⟨by kernel_rfl, fun w1 hSw => by clear hHeld; obtain ⟨k0, k1, k2, k3, k4, k5⟩ := HCe.out _ hSw; go_simp⟩) hHeld ?_
    try simp only [Act.put]
    try simp only [List.getElem_toArray]
    try simp only [List.getElem_cons_succ]
    try simp only [List.getElem_cons_zero]
    try simp only [List.setIfInBounds_toArray]
    try simp only [List.set_cons_succ, List.set_cons_zero]
    refine wpAnyH_take (i := 9) (v := .pointer (some ⟨kb, 0, none⟩)) rfl (by kernel_rfl) (by kernel_rfl) (by kernel_rfl) (fun _ _ _ h => h) (Or.inl ⟨by kernel_rfl, fun w1 hSw => by clear hHeld; obtain ⟨k0, k1, k2, k3, k4, k5⟩ := HCe.out _ hSw; go_simp⟩) hHeld ?_
    try simp only [Act.put]
    try simp only [List.getElem_toArray]
    try simp only [List.getElem_cons_succ]
    try simp only [List.getElem_cons_zero]
    try simp only [List.setIfInBounds_toArray]
    try simp only [List.set_cons_succ, List.set_cons_zero]
    refine wpAnyH_take (i := 10) (v := .pointer (some ⟨kb, 0, none⟩)) rfl (by kernel_rfl) (by kernel_rfl) (by kernel_rfl) (fun _ _ _ h => h) (Or.inl ⟨by kernel_rfl, fun w1 hSw => by clear hHeld; obtain ⟨k0, k1, k2, k3, k4, k5⟩ := HCe.out _ hSw; go_simp⟩) hHeld ?_
    try simp only [Act.put]
    try simp only [List.getElem_toArray]
    try simp only [List.getElem_cons_succ]
    try simp only [List.getElem_cons_zero]
    try simp only [List.setIfInBounds_toArray]
    try simp only [List.set_cons_succ, List.set_cons_zero]
    refine wpAnyH_take (i := 11) (v := .pointer (some ⟨qb, 0, none⟩)) rfl (by kernel_rfl) (by kernel_rfl) (by kernel_rfl) (fun _ _ _ h => h) (Or.inl ⟨by kernel_rfl, fun w1 hSw => by clear hHeld; obtain ⟨k0, k1, k2, k3, k4, k5⟩ := HCe.out _ hSw; go_simp⟩) hHeld ?_
    try simp only [Act.put]
    try simp only [List.getElem_toArray]
    try simp only [List.getElem_cons_succ]
    try simp only [List.getElem_cons_zero]
    try simp only [List.setIfInBounds_toArray]
    try simp only [List.set_cons_succ, List.set_cons_zero]
    refine wpAnyH_take (i := 12) (v := .pointer (some ⟨w.heap.size, 2, none⟩)) rfl (by kernel_rfl) (by kernel_rfl) (by kernel_rfl) (fun _ _ _ h => h) (Or.inl ⟨by kernel_rfl, fun w1 hSw => by clear hHeld; obtain ⟨k0, k1, k2, k3, k4, k5⟩ := HCe.out _ hSw; go_simp⟩) hHeld ?_
    try simp only [Act.put]
    try simp only [List.getElem_toArray]
    try simp only [List.getElem_cons_succ]
    try simp only [List.getElem_cons_zero]
    try simp only [List.setIfInBounds_toArray]
    try simp only [List.set_cons_succ, List.set_cons_zero]
    refine wpAnyH_take (i := 13) (v := .int .i64 c.jo) rfl (by kernel_rfl) (by kernel_rfl) (by kernel_rfl) (fun _ _ _ h => h) (Or.inl ⟨by kernel_rfl, fun w1 hSw => by clear hHeld; obtain ⟨k0, k1, k2, k3, k4, k5⟩ := HCe.out _ hSw; go_simp⟩) hHeld ?_
    try simp only [Act.put]
    try simp only [List.getElem_toArray]
    try simp only [List.getElem_cons_succ]
    try simp only [List.getElem_cons_zero]
    try simp only [List.setIfInBounds_toArray]
    try simp only [List.set_cons_succ, List.set_cons_zero]
    refine wpAnyH_take (i := 14) (v := .pointer (some ⟨w.heap.size, 3, none⟩)) rfl (by kernel_rfl) (by kernel_rfl) (by kernel_rfl) (fun _ _ _ h => h) (Or.inl ⟨by kernel_rfl, fun w1 hSw => by clear hHeld; obtain ⟨k0, k1, k2, k3, k4, k5⟩ := HCe.out _ hSw; go_simp⟩) hHeld ?_
    try simp only [Act.put]
    try simp only [List.getElem_toArray]
    try simp only [List.getElem_cons_succ]
    try simp only [List.getElem_cons_zero]
    try simp only [List.setIfInBounds_toArray]
    try simp only [List.set_cons_succ, List.set_cons_zero]
    refine wpAnyH_take (i := 15) (v := .int .i64 c.ba) rfl (by kernel_rfl) (by kernel_rfl) (by kernel_rfl) (fun _ _ _ h => h) (Or.inl ⟨by kernel_rfl, fun w1 hSw => by clear hHeld; obtain ⟨k0, k1, k2, k3, k4, k5⟩ := HCe.out _ hSw; go_simp⟩) hHeld ?_
    try simp only [Act.put]
    try simp only [List.getElem_toArray]
    try simp only [List.getElem_cons_succ]
    try simp only [List.getElem_cons_zero]
    try simp only [List.setIfInBounds_toArray]
    try simp only [List.set_cons_succ, List.set_cons_zero]
    refine wpAnyH_take (i := 16) (v := .agg #[.int .i64 (2 + c.sl), .int .i64 c.li]) rfl (by kernel_rfl) (by kernel_rfl) (by kernel_rfl) (fun _ _ _ h => h) (Or.inl ⟨by kernel_rfl, fun w1 hSw => by clear hHeld; obtain ⟨k0, k1, k2, k3, k4, k5⟩ := HCe.out _ hSw; go_simp⟩) hHeld ?_
    try simp only [Act.put]
    try simp only [List.getElem_toArray]
    try simp only [List.getElem_cons_succ]
    try simp only [List.getElem_cons_zero]
    try simp only [List.setIfInBounds_toArray]
    try simp only [List.set_cons_succ, List.set_cons_zero]
    refine wpAnyH_ready (rs := [17]) (by kernel_rfl) (by simp) ?_
    refine AllReadyH.cons rfl (fun K hK => ?_) AllReadyH.nil
    go_simp
    refine HQ.out.mono ?_
    rintro e V1 ⟨rfl, hq, hm⟩
    have H2 := hide (H1.out.drew.mv hm hq)
    have HB := hide (HA.out.drew.trans (hm.below (B := base) hbw (fun g hg => (HF.out g hg).1)))
    have HN1 := hide ((hm.block w.heap.size hAw (fun hf => Nat.lt_irrefl _ (HF.out _ hf).2)).trans HS2.out)
    have HN2 := hide ((hm.block (w.heap.size + 1) hAx (fun hf => Nat.lt_irrefl _ (Nat.lt_of_le_of_lt (Nat.le_succ _) (HF.out _ hf).2))).trans HS3.out)
    clear hq hm
    refine hK.out _ _ (⟨H2.out.blk, HN1.out, HN2.out⟩) (fun hHeld => ?_)
    clear hK K
    try simp only [Act.put]
    try simp only [List.getElem_toArray]
    try simp only [List.getElem_cons_succ]
    try simp only [List.getElem_cons_zero]
    try simp only [List.setIfInBounds_toArray]
    try simp only [List.set_cons_succ, List.set_cons_zero]
    refine wpAnyH_take (i := 18) (v := .bool false) rfl (by kernel_rfl) (by kernel_rfl) (by kernel_rfl) (fun _ _ _ h => h) (Or.inl ⟨by kernel_rfl, fun w1 hSw => by clear hHeld; obtain ⟨k0, k1, k2, k3, k4, k5⟩ := HCe.out _ hSw; go_simp⟩) hHeld ?_
    try simp only [Act.put]
    try simp only [List.getElem_toArray]
    try simp only [List.getElem_cons_succ]
    try simp only [List.getElem_cons_zero]
    try simp only [List.setIfInBounds_toArray]
    try simp only [List.set_cons_succ, List.set_cons_zero]
    refine wpAnyH_take (i := 19) (v := .bool false) rfl (by kernel_rfl) (by kernel_rfl) (by kernel_rfl) (fun _ _ _ h => h) (Or.inl ⟨by kernel_rfl, fun w1 hSw => by clear hHeld; obtain ⟨k0, k1, k2, k3, k4, k5⟩ := HCe.out _ hSw; go_simp⟩) hHeld ?_
    try simp only [Act.put]
    try simp only [List.getElem_toArray]
    try simp only [List.getElem_cons_succ]
    try simp only [List.getElem_cons_zero]
    try simp only [List.setIfInBounds_toArray]
    try simp only [List.set_cons_succ, List.set_cons_zero]
    refine wpAnyH_done (by kernel_rfl) ?_ _
    have hcl : V1.cell? ⟨kb, 2 + i * 2 + 1, none⟩ = some (T i) := H2.out.cl hi8
    have hz := H2.out.z
    have hkl := H2.out.lt
    have d2 : V1.cell? ⟨w.heap.size, 2, none⟩ = some (.int .i64 ((i : Int) + 1)) := by simp [World.cell?, HN1.out, HJ.out]
    have HK := hide (H2.out.log hP hi8 (Tx.nil V1) (fun g hg => by simp [Value.ownBlock] at hg) (fun g hg => by simp [Value.ownBlock] at hg))
    have e1 : (i : Int) + 1 - 1 = (i : Int) := by omega
    clear H2 HQ HN1 HN2 HS1 HS2 HS3 HCe
    go_wp2_with fail
    go_region
    go_wp2_with fail
    go_ret
    exact .yes _ _ _ HO.out rfl HK.out.drew ((HB.out.setCell hlow _).drew)
  · rw [if_pos (.inr he)] at HO
    generalize grL s.L c.jo c.ba (2 + c.sl) c.li = L' at *
    generalize grE s.L c.jo c.ba (2 + c.sl) c.li = G at *
    clear hW
    go_enter Tryz.func98, Tryz.ntmps98
    simp only [chC]
    go_upto_region 2 with fail
    generalize (w.alloc _).alloc _ = W at *
    refine wp_region_held_drew (S := fun w' => w'.heap[kb]? = some (.cells (kcs qb s.res s.pa T) 57 (0, 0)) ∧ w'.heap[w.heap.size]? = some (.cells #[.int .i64 c.k, .int .i64 c.n, .int .i64 c.jo, .int .i64 c.ba, .int .i64 c.sl, .int .i64 c.li, .int .i64 c.rc, .int .u64 (c.rb : Int), .string c.pr, t] 78 (0, 0)) ∧ w'.heap[w.heap.size + 1]? = some (.cells #[.int .i64 (2 + c.sl), .int .i64 c.li] 80 (0, 0))) (by kernel_rfl) (⟨HS1.out, HS2.out, HS3.out⟩) (fun hHeld => ?_)
    refine wpAnyH_take (i := 0) (v := .pointer (some ⟨w.heap.size, 3, none⟩)) rfl (by kernel_rfl) (by kernel_rfl) (by kernel_rfl) (fun _ _ _ h => h) (Or.inl ⟨by kernel_rfl, fun w1 hSw => by clear hHeld; obtain ⟨k0, k1, k2, k3, k4, k5⟩ := HCe.out _ hSw; go_simp⟩) hHeld ?_
    try simp only [Act.put]
    try simp only [List.getElem_toArray]
    try simp only [List.getElem_cons_succ]
    try simp only [List.getElem_cons_zero]
    try simp only [List.setIfInBounds_toArray]
    try simp only [List.set_cons_succ, List.set_cons_zero]
    refine wpAnyH_take (i := 1) (v := .int .i64 c.ba) rfl (by kernel_rfl) (by kernel_rfl) (by kernel_rfl) (fun _ _ _ h => h) (Or.inl ⟨by kernel_rfl, fun w1 hSw => by clear hHeld; obtain ⟨k0, k1, k2, k3, k4, k5⟩ := HCe.out _ hSw; go_simp⟩) hHeld ?_
    try simp only [Act.put]
    try simp only [List.getElem_toArray]
    try simp only [List.getElem_cons_succ]
    try simp only [List.getElem_cons_zero]
    try simp only [List.setIfInBounds_toArray]
    try simp only [List.set_cons_succ, List.set_cons_zero]
    refine wpAnyH_take (i := 2) (v := .pointer (some ⟨kb, 0, none⟩)) rfl (by kernel_rfl) (by kernel_rfl) (by kernel_rfl) (fun _ _ _ h => h) (Or.inl ⟨by kernel_rfl, fun w1 hSw => by clear hHeld; obtain ⟨k0, k1, k2, k3, k4, k5⟩ := HCe.out _ hSw; go_simp⟩) hHeld ?_
    try simp only [Act.put]
    try simp only [List.getElem_toArray]
    try simp only [List.getElem_cons_succ]
    try simp only [List.getElem_cons_zero]
    try simp only [List.setIfInBounds_toArray]
    try simp only [List.set_cons_succ, List.set_cons_zero]
    refine wpAnyH_take (i := 3) (v := .pointer (some ⟨kb, 0, none⟩)) rfl (by kernel_rfl) (by kernel_rfl) (by kernel_rfl) (fun _ _ _ h => h) (Or.inl ⟨by kernel_rfl, fun w1 hSw => by clear hHeld; obtain ⟨k0, k1, k2, k3, k4, k5⟩ := HCe.out _ hSw; go_simp⟩) hHeld ?_
    try simp only [Act.put]
    try simp only [List.getElem_toArray]
    try simp only [List.getElem_cons_succ]
    try simp only [List.getElem_cons_zero]
    try simp only [List.setIfInBounds_toArray]
    try simp only [List.set_cons_succ, List.set_cons_zero]
    refine wpAnyH_take (i := 4) (v := .pointer (some ⟨kb, 1, none⟩)) rfl (by kernel_rfl) (by kernel_rfl) (by kernel_rfl) (fun _ _ _ h => h) (Or.inl ⟨by kernel_rfl, fun w1 hSw => by clear hHeld; obtain ⟨k0, k1, k2, k3, k4, k5⟩ := HCe.out _ hSw; go_simp⟩) hHeld ?_
    try simp only [Act.put]
    try simp only [List.getElem_toArray]
    try simp only [List.getElem_cons_succ]
    try simp only [List.getElem_cons_zero]
    try simp only [List.setIfInBounds_toArray]
    try simp only [List.set_cons_succ, List.set_cons_zero]
    refine wpAnyH_take (i := 5) (v := .int .i64 s.res) rfl (by kernel_rfl) (by kernel_rfl) (by kernel_rfl) (fun _ _ _ h => h) (Or.inl ⟨by kernel_rfl, fun w1 hSw => by clear hHeld; obtain ⟨k0, k1, k2, k3, k4, k5⟩ := HCe.out _ hSw; go_simp⟩) hHeld ?_
    try simp only [Act.put]
    try simp only [List.getElem_toArray]
    try simp only [List.getElem_cons_succ]
    try simp only [List.getElem_cons_zero]
    try simp only [List.setIfInBounds_toArray]
    try simp only [List.set_cons_succ, List.set_cons_zero]
    refine wpAnyH_take (i := 6) (v := .bool false) rfl (by kernel_rfl) (by kernel_rfl) (by kernel_rfl) (fun _ _ _ h => h) (Or.inl ⟨by kernel_rfl, fun w1 hSw => by clear hHeld; obtain ⟨k0, k1, k2, k3, k4, k5⟩ := HCe.out _ hSw; go_simp⟩) hHeld ?_
    try simp only [Act.put]
    try simp only [List.getElem_toArray]
    try simp only [List.getElem_cons_succ]
    try simp only [List.getElem_cons_zero]
    try simp only [List.setIfInBounds_toArray]
    try simp only [List.set_cons_succ, List.set_cons_zero]
    refine wpAnyH_take (i := 7) (v := .bool false) rfl (by kernel_rfl) (by kernel_rfl) (by kernel_rfl) (fun _ _ _ h => h) (Or.inl ⟨by kernel_rfl, fun w1 hSw => by clear hHeld; obtain ⟨k0, k1, k2, k3, k4, k5⟩ := HCe.out _ hSw; go_simp⟩) hHeld ?_
    try simp only [Act.put]
    try simp only [List.getElem_toArray]
    try simp only [List.getElem_cons_succ]
    try simp only [List.getElem_cons_zero]
    try simp only [List.setIfInBounds_toArray]
    try simp only [List.set_cons_succ, List.set_cons_zero]
    refine wpAnyH_take (i := 8) (v := .pointer (some ⟨kb, 0, none⟩)) rfl (by kernel_rfl) (by kernel_rfl) (by kernel_rfl) (fun _ _ _ h => h) (Or.inl ⟨by kernel_rfl, fun w1 hSw => by clear hHeld; obtain ⟨k0, k1, k2, k3, k4, k5⟩ := HCe.out _ hSw; go_simp⟩) hHeld ?_
    try simp only [Act.put]
    try simp only [List.getElem_toArray]
    try simp only [List.getElem_cons_succ]
    try simp only [List.getElem_cons_zero]
    try simp only [List.setIfInBounds_toArray]
    try simp only [List.set_cons_succ, List.set_cons_zero]
    refine wpAnyH_take (i := 9) (v := .pointer (some ⟨kb, 0, none⟩)) rfl (by kernel_rfl) (by kernel_rfl) (by kernel_rfl) (fun _ _ _ h => h) (Or.inl ⟨by kernel_rfl, fun w1 hSw => by clear hHeld; obtain ⟨k0, k1, k2, k3, k4, k5⟩ := HCe.out _ hSw; go_simp⟩) hHeld ?_
    try simp only [Act.put]
    try simp only [List.getElem_toArray]
    try simp only [List.getElem_cons_succ]
    try simp only [List.getElem_cons_zero]
    try simp only [List.setIfInBounds_toArray]
    try simp only [List.set_cons_succ, List.set_cons_zero]
    refine wpAnyH_take (i := 10) (v := .pointer (some ⟨kb, 0, none⟩)) rfl (by kernel_rfl) (by kernel_rfl) (by kernel_rfl) (fun _ _ _ h => h) (Or.inl ⟨by kernel_rfl, fun w1 hSw => by clear hHeld; obtain ⟨k0, k1, k2, k3, k4, k5⟩ := HCe.out _ hSw; go_simp⟩) hHeld ?_
    try simp only [Act.put]
    try simp only [List.getElem_toArray]
    try simp only [List.getElem_cons_succ]
    try simp only [List.getElem_cons_zero]
    try simp only [List.setIfInBounds_toArray]
    try simp only [List.set_cons_succ, List.set_cons_zero]
    refine wpAnyH_take (i := 11) (v := .pointer (some ⟨qb, 0, none⟩)) rfl (by kernel_rfl) (by kernel_rfl) (by kernel_rfl) (fun _ _ _ h => h) (Or.inl ⟨by kernel_rfl, fun w1 hSw => by clear hHeld; obtain ⟨k0, k1, k2, k3, k4, k5⟩ := HCe.out _ hSw; go_simp⟩) hHeld ?_
    try simp only [Act.put]
    try simp only [List.getElem_toArray]
    try simp only [List.getElem_cons_succ]
    try simp only [List.getElem_cons_zero]
    try simp only [List.setIfInBounds_toArray]
    try simp only [List.set_cons_succ, List.set_cons_zero]
    refine wpAnyH_take (i := 12) (v := .pointer (some ⟨w.heap.size, 2, none⟩)) rfl (by kernel_rfl) (by kernel_rfl) (by kernel_rfl) (fun _ _ _ h => h) (Or.inl ⟨by kernel_rfl, fun w1 hSw => by clear hHeld; obtain ⟨k0, k1, k2, k3, k4, k5⟩ := HCe.out _ hSw; go_simp⟩) hHeld ?_
    try simp only [Act.put]
    try simp only [List.getElem_toArray]
    try simp only [List.getElem_cons_succ]
    try simp only [List.getElem_cons_zero]
    try simp only [List.setIfInBounds_toArray]
    try simp only [List.set_cons_succ, List.set_cons_zero]
    refine wpAnyH_take (i := 13) (v := .int .i64 c.jo) rfl (by kernel_rfl) (by kernel_rfl) (by kernel_rfl) (fun _ _ _ h => h) (Or.inl ⟨by kernel_rfl, fun w1 hSw => by clear hHeld; obtain ⟨k0, k1, k2, k3, k4, k5⟩ := HCe.out _ hSw; go_simp⟩) hHeld ?_
    try simp only [Act.put]
    try simp only [List.getElem_toArray]
    try simp only [List.getElem_cons_succ]
    try simp only [List.getElem_cons_zero]
    try simp only [List.setIfInBounds_toArray]
    try simp only [List.set_cons_succ, List.set_cons_zero]
    refine wpAnyH_take (i := 14) (v := .pointer (some ⟨w.heap.size, 3, none⟩)) rfl (by kernel_rfl) (by kernel_rfl) (by kernel_rfl) (fun _ _ _ h => h) (Or.inl ⟨by kernel_rfl, fun w1 hSw => by clear hHeld; obtain ⟨k0, k1, k2, k3, k4, k5⟩ := HCe.out _ hSw; go_simp⟩) hHeld ?_
    try simp only [Act.put]
    try simp only [List.getElem_toArray]
    try simp only [List.getElem_cons_succ]
    try simp only [List.getElem_cons_zero]
    try simp only [List.setIfInBounds_toArray]
    try simp only [List.set_cons_succ, List.set_cons_zero]
    refine wpAnyH_take (i := 15) (v := .int .i64 c.ba) rfl (by kernel_rfl) (by kernel_rfl) (by kernel_rfl) (fun _ _ _ h => h) (Or.inl ⟨by kernel_rfl, fun w1 hSw => by clear hHeld; obtain ⟨k0, k1, k2, k3, k4, k5⟩ := HCe.out _ hSw; go_simp⟩) hHeld ?_
    try simp only [Act.put]
    try simp only [List.getElem_toArray]
    try simp only [List.getElem_cons_succ]
    try simp only [List.getElem_cons_zero]
    try simp only [List.setIfInBounds_toArray]
    try simp only [List.set_cons_succ, List.set_cons_zero]
    refine wpAnyH_take (i := 16) (v := .agg #[.int .i64 (2 + c.sl), .int .i64 c.li]) rfl (by kernel_rfl) (by kernel_rfl) (by kernel_rfl) (fun _ _ _ h => h) (Or.inl ⟨by kernel_rfl, fun w1 hSw => by clear hHeld; obtain ⟨k0, k1, k2, k3, k4, k5⟩ := HCe.out _ hSw; go_simp⟩) hHeld ?_
    try simp only [Act.put]
    try simp only [List.getElem_toArray]
    try simp only [List.getElem_cons_succ]
    try simp only [List.getElem_cons_zero]
    try simp only [List.setIfInBounds_toArray]
    try simp only [List.set_cons_succ, List.set_cons_zero]
    refine wpAnyH_ready (rs := [17]) (by kernel_rfl) (by simp) ?_
    refine AllReadyH.cons rfl (fun K hK => ?_) AllReadyH.nil
    go_simp
    refine HQ.out.mono ?_
    rintro e V1 ⟨rfl, hq, hm⟩
    have H2 := hide (H1.out.drew.mv hm hq)
    have HB := hide (HA.out.drew.trans (hm.below (B := base) hbw (fun g hg => (HF.out g hg).1)))
    have HN1 := hide ((hm.block w.heap.size hAw (fun hf => Nat.lt_irrefl _ (HF.out _ hf).2)).trans HS2.out)
    have HN2 := hide ((hm.block (w.heap.size + 1) hAx (fun hf => Nat.lt_irrefl _ (Nat.lt_of_le_of_lt (Nat.le_succ _) (HF.out _ hf).2))).trans HS3.out)
    clear hq hm
    refine hK.out _ _ (⟨H2.out.blk, HN1.out, HN2.out⟩) (fun hHeld => ?_)
    clear hK K
    try simp only [Act.put]
    try simp only [List.getElem_toArray]
    try simp only [List.getElem_cons_succ]
    try simp only [List.getElem_cons_zero]
    try simp only [List.setIfInBounds_toArray]
    try simp only [List.set_cons_succ, List.set_cons_zero]
    refine wpAnyH_take (i := 18) (v := .bool true) rfl (by kernel_rfl) (by kernel_rfl) (by kernel_rfl) (fun _ _ _ h => h) (Or.inl ⟨by kernel_rfl, fun w1 hSw => by clear hHeld; obtain ⟨k0, k1, k2, k3, k4, k5⟩ := HCe.out _ hSw; go_simp⟩) hHeld ?_
    try simp only [Act.put]
    try simp only [List.getElem_toArray]
    try simp only [List.getElem_cons_succ]
    try simp only [List.getElem_cons_zero]
    try simp only [List.setIfInBounds_toArray]
    try simp only [List.set_cons_succ, List.set_cons_zero]
    refine wpAnyH_take (i := 19) (v := .bool true) rfl (by kernel_rfl) (by kernel_rfl) (by kernel_rfl) (fun _ _ _ h => h) (Or.inl ⟨by kernel_rfl, fun w1 hSw => by clear hHeld; obtain ⟨k0, k1, k2, k3, k4, k5⟩ := HCe.out _ hSw; go_simp⟩) hHeld ?_
    try simp only [Act.put]
    try simp only [List.getElem_toArray]
    try simp only [List.getElem_cons_succ]
    try simp only [List.getElem_cons_zero]
    try simp only [List.setIfInBounds_toArray]
    try simp only [List.set_cons_succ, List.set_cons_zero]
    refine wpAnyH_done (by kernel_rfl) ?_ _
    go_wp2_with fail
    go_ret
    exact .no HO.out rfl HB.out
end
end Go.Proofs.YtepondcflkledaaGreat.S
end
