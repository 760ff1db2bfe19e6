import Derived.Test.YtkchddphmkgilaaQuPa
namespace Go.Proofs.Ytkchddphmkgilaa
open Go.RowKit

abbrev pobj (b x : Nat) : Obj := .cells #[.pointer (some ⟨b, 0, none⟩), .pointer (some ⟨x, 0, none⟩)] 41 (0, 0)
/-- the two boxes of a call -/
structure Bo (w : World) (P b x : Nat) (o : Rr) : Prop where
  p : w.heap[P]? = some (pobj b x)
  o : w.heap[P + 1]? = some o.oobj
theorem Bo.cells {w : World} {P b x : Nat} {o : Rr} (h : Bo w P b x o) : w.cell? ⟨P, 0, none⟩ = some (.pointer (some ⟨b, 0, none⟩)) ∧ w.cell? ⟨P, 1, none⟩ = some (.pointer (some ⟨x, 0, none⟩)) ∧ w.cell? ⟨P + 1, 0, none⟩ = some (.int .i64 o.job) ∧ w.cell? ⟨P + 1, 1, none⟩ = some (.int .i64 o.st) ∧ w.cell? ⟨P + 1, 2, none⟩ = some (.int .i64 o.att) ∧ w.cell? ⟨P + 1, 3, none⟩ = some (.int .i64 o.bdg) ∧ w.cell? ⟨P + 1, 4, none⟩ = some (.int .i64 o.node) ∧ w.cell? ⟨P + 1, 5, none⟩ = some (.int .i64 o.life) ∧ w.cell? ⟨P + 1, 6, none⟩ = some (.int .i64 o.code) ∧ w.cell? ⟨P + 1, 7, none⟩ = some (.int .u64 o.bits) := by
  obtain ⟨h1, h2⟩ := h
  simp [World.cell?, h1, h2]
theorem Bo.below {w w' : World} {P b x : Nat} {o : Rr} (h : Bo w P b x o) (hb : Below w.heap.size w w') : Bo w' P b x o := ⟨(hb.block _ (lt_of_block h.p)).trans h.p, (hb.block _ (lt_of_block h.o)).trans h.o⟩
theorem Bo.mv {B : Nat} {m : Int} {L : List Rr} {w w' : World} {P b x : Nat} {v v' : Value} {o : Rr} (h : Bo w P b x o) (hq : Qm 47 B w b v m L) (hm : Mv (Ft b v) (Ft b v') w w') : Bo w' P b x o :=
  ⟨(hm.block _ (lt_of_block h.p) (hq.other h.p (by decide) (by decide))).trans h.p, (hm.block _ (lt_of_block h.o) (hq.other h.o (by decide) (by decide))).trans h.o⟩
theorem Bo.new (w : World) (b x : Nat) (o : Rr) : Bo ((w.alloc (pobj b x)).alloc o.oobj) w.heap.size b x o := by
  have hs := World.size_alloc w (pobj b x)
  exact ⟨(Below.heap_alloc _ _ _ (by omega)).trans (heap_alloc_new w _), by rw [← hs]; exact heap_alloc_new _ _⟩
theorem Bo.on {w w' : World} {P b x : Nat} {o : Rr} {cs : Array Value} (h : Bo w P b x o) (hx : w.heap[x]? = some (.cells cs 50 (0, 0))) (ho : On x w w') : Bo w' P b x o :=
  ⟨(ho.block _ (lt_of_block h.p) (blk_ne h.p hx (by decide))).trans h.p, (ho.block _ (lt_of_block h.o) (blk_ne h.o hx (by decide))).trans h.o⟩
section
variable {B : Nat} {m : Int} {w : World} {b : Nat} {v : Value} {x : Nat} {ad : Option Addr} {ab cap : Nat} {L : List Rr}
set_option maxHeartbeats 4000000 in
set_option maxRecDepth 8000 in
theorem changes_any (h : Pr B m w b v x ad ab cap L) (o : Rr) : Calls Try.prog 36 #[.agg #[.pointer (some ⟨b, 0, none⟩), .pointer (some ⟨x, 0, none⟩)], o.val] w fun e w' => e = .returned (.bool true) ∧ ChP B m b v x ab L w w' := by
  have hl := h.ok.len
  have hb2 : Below w.heap.size w ((w.alloc (pobj b x)).alloc o.oobj) := (below_alloc w _).alloc (by simp) _
  have HB2 := hide hb2
  have HP := hide (h.below hb2)
  have HBo := hide (Bo.new w b x o)
  have HC := hide (fun V (hV : Bo V w.heap.size b x o) => hV.cells)
  clear hb2 h
  by_cases h0 : o.st = 0
  · have b0 : (o.st == 0) = true := by simpa using h0
    clear h0
    go_enter Try.func36, Try.ntmps36
    go_wp2_with fail
    generalize (w.alloc (pobj b x)).alloc o.oobj = W0 at *
    refine (submit_any HP.out.q).mono ?_
    rintro e w1 ⟨rfl, v1, hq1, hm1⟩
    have HX1 := hide (HP.out.xmv hm1)
    have HBo1 := hide (HBo.out.mv HP.out.q hm1)
    have HQ1 := hide hq1
    have HM1 := hide hm1
    clear hq1 hm1
    obtain ⟨p0, p1, o0, o1, o2, o3, o4, o5, o6, o7⟩ := HC.out _ HBo1.out
    go_wp2_with fail
    refine (rsubmit_any HX1.out hl).mono ?_
    rintro e w2 ⟨rfl, hx2⟩
    have HF := hide (ChP.ahead HB2.out (ChP.both HP.out (HP.out.ok.submit) HQ1.out HM1.out hx2))
    clear hx2 HX1 HBo1 HQ1 HM1 HP HBo p0 p1 o0 o1 o2 o3 o4 o5 o6 o7
    have t1 : (sbJ L == sbJ L) = true := by simp
    have t2 : (sbE L == sbE L) = true := by simp
    generalize sbJ L = J at *
    generalize sbE L = E at *
    go_wp2
    go_ret
    exact ⟨rfl, HF.out⟩
  have n0 : (o.st == 0) = false := by simpa using h0
  by_cases h2 : o.st = 2
  · have b2 : (o.st == 2) = true := by simpa using h2
    clear h2
    go_enter Try.func36, Try.ntmps36
    go_wp2_with fail
    generalize (w.alloc (pobj b x)).alloc o.oobj = W0 at *
    have HOk2 : Hid (Ok m (grL L o.att o.bdg o.node o.life)) := by
      by_cases h0 : grE L o.att o.bdg o.node o.life = 0
      · exact HP.out.ok.grant h0
      · show Ok m (grL L o.att o.bdg o.node o.life); unfold grL; rw [if_neg h0]; exact HP.out.ok
    have t1 : (grE L o.att o.bdg o.node o.life == grE L o.att o.bdg o.node o.life) = true := by simp
    have HP0 : Hid (Pr B m W0.drew b v x ad ab cap L) := hide (HP.out.below ⟨rfl, rfl, rfl, Nat.le_refl _, fun _ _ => rfl⟩)
    have HBd : Hid (Below w.heap.size w W0.drew) := hide (below_drew HB2.out)
    refine wp_region_held_drew (S := fun w' => Bo w' w.heap.size b x o) (by kernel_rfl) (⟨HBo.out.p, HBo.out.o⟩) (fun hHeld => ?_)
    refine wpAnyH_take (i := 0) (v := .pointer (some ⟨w.heap.size, 0, none⟩)) rfl (by kernel_rfl) (by kernel_rfl) (by kernel_rfl) (fun _ _ _ h => h) (Or.inl ⟨by kernel_rfl, fun w1 hSw => by clear hHeld; obtain ⟨k0, k1, k2, k3, k4, k5, k6, k7, k8, k9⟩ := HC.out _ hSw; go_simp⟩) hHeld ?_
    try simp only [Act.put]
    try simp only [List.getElem_toArray]
    try simp only [List.getElem_cons_succ]
    try simp only [List.getElem_cons_zero]
    try simp only [List.setIfInBounds_toArray]
    try simp only [List.set_cons_succ, List.set_cons_zero]
    refine wpAnyH_take (i := 1) (v := .pointer (some ⟨b, 0, none⟩)) rfl (by kernel_rfl) (by kernel_rfl) (by kernel_rfl) (fun _ _ _ h => h) (Or.inl ⟨by kernel_rfl, fun w1 hSw => by clear hHeld; obtain ⟨k0, k1, k2, k3, k4, k5, k6, k7, k8, k9⟩ := HC.out _ hSw; go_simp⟩) hHeld ?_
    try simp only [Act.put]
    try simp only [List.getElem_toArray]
    try simp only [List.getElem_cons_succ]
    try simp only [List.getElem_cons_zero]
    try simp only [List.setIfInBounds_toArray]
    try simp only [List.set_cons_succ, List.set_cons_zero]
    refine wpAnyH_take (i := 2) (v := .pointer (some ⟨w.heap.size + 1, 2, none⟩)) rfl (by kernel_rfl) (by kernel_rfl) (by kernel_rfl) (fun _ _ _ h => h) (Or.inl ⟨by kernel_rfl, fun w1 hSw => by clear hHeld; obtain ⟨k0, k1, k2, k3, k4, k5, k6, k7, k8, k9⟩ := HC.out _ hSw; go_simp⟩) hHeld ?_
    try simp only [Act.put]
    try simp only [List.getElem_toArray]
    try simp only [List.getElem_cons_succ]
    try simp only [List.getElem_cons_zero]
    try simp only [List.setIfInBounds_toArray]
    try simp only [List.set_cons_succ, List.set_cons_zero]
    refine wpAnyH_take (i := 3) (v := .int .i64 o.att) rfl (by kernel_rfl) (by kernel_rfl) (by kernel_rfl) (fun _ _ _ h => h) (Or.inl ⟨by kernel_rfl, fun w1 hSw => by clear hHeld; obtain ⟨k0, k1, k2, k3, k4, k5, k6, k7, k8, k9⟩ := HC.out _ hSw; go_simp⟩) hHeld ?_
    try simp only [Act.put]
    try simp only [List.getElem_toArray]
    try simp only [List.getElem_cons_succ]
    try simp only [List.getElem_cons_zero]
    try simp only [List.setIfInBounds_toArray]
    try simp only [List.set_cons_succ, List.set_cons_zero]
    refine wpAnyH_take (i := 4) (v := .pointer (some ⟨w.heap.size + 1, 3, none⟩)) rfl (by kernel_rfl) (by kernel_rfl) (by kernel_rfl) (fun _ _ _ h => h) (Or.inl ⟨by kernel_rfl, fun w1 hSw => by clear hHeld; obtain ⟨k0, k1, k2, k3, k4, k5, k6, k7, k8, k9⟩ := HC.out _ hSw; go_simp⟩) hHeld ?_
    try simp only [Act.put]
    try simp only [List.getElem_toArray]
    try simp only [List.getElem_cons_succ]
    try simp only [List.getElem_cons_zero]
    try simp only [List.setIfInBounds_toArray]
    try simp only [List.set_cons_succ, List.set_cons_zero]
    refine wpAnyH_take (i := 5) (v := .int .i64 o.bdg) rfl (by kernel_rfl) (by kernel_rfl) (by kernel_rfl) (fun _ _ _ h => h) (Or.inl ⟨by kernel_rfl, fun w1 hSw => by clear hHeld; obtain ⟨k0, k1, k2, k3, k4, k5, k6, k7, k8, k9⟩ := HC.out _ hSw; go_simp⟩) hHeld ?_
    try simp only [Act.put]
    try simp only [List.getElem_toArray]
    try simp only [List.getElem_cons_succ]
    try simp only [List.getElem_cons_zero]
    try simp only [List.setIfInBounds_toArray]
    try simp only [List.set_cons_succ, List.set_cons_zero]
    refine wpAnyH_take (i := 6) (v := .pointer (some ⟨w.heap.size + 1, 4, none⟩)) rfl (by kernel_rfl) (by kernel_rfl) (by kernel_rfl) (fun _ _ _ h => h) (Or.inl ⟨by kernel_rfl, fun w1 hSw => by clear hHeld; obtain ⟨k0, k1, k2, k3, k4, k5, k6, k7, k8, k9⟩ := HC.out _ hSw; go_simp⟩) hHeld ?_
    try simp only [Act.put]
    try simp only [List.getElem_toArray]
    try simp only [List.getElem_cons_succ]
    try simp only [List.getElem_cons_zero]
    try simp only [List.setIfInBounds_toArray]
    try simp only [List.set_cons_succ, List.set_cons_zero]
    refine wpAnyH_take (i := 7) (v := .agg #[.int .i64 o.node, .int .i64 o.life]) rfl (by kernel_rfl) (by kernel_rfl) (by kernel_rfl) (fun _ _ _ h => h) (Or.inl ⟨by kernel_rfl, fun w1 hSw => by clear hHeld; obtain ⟨k0, k1, k2, k3, k4, k5, k6, k7, k8, k9⟩ := HC.out _ hSw; go_simp⟩) hHeld ?_
    try simp only [Act.put]
    try simp only [List.getElem_toArray]
    try simp only [List.getElem_cons_succ]
    try simp only [List.getElem_cons_zero]
    try simp only [List.setIfInBounds_toArray]
    try simp only [List.set_cons_succ, List.set_cons_zero]
    refine wpAnyH_take (i := 9) (v := .pointer (some ⟨w.heap.size, 1, none⟩)) rfl (by kernel_rfl) (by kernel_rfl) (by kernel_rfl) (fun _ _ _ h => h) (Or.inl ⟨by kernel_rfl, fun w1 hSw => by clear hHeld; obtain ⟨k0, k1, k2, k3, k4, k5, k6, k7, k8, k9⟩ := HC.out _ hSw; go_simp⟩) hHeld ?_
    try simp only [Act.put]
    try simp only [List.getElem_toArray]
    try simp only [List.getElem_cons_succ]
    try simp only [List.getElem_cons_zero]
    try simp only [List.setIfInBounds_toArray]
    try simp only [List.set_cons_succ, List.set_cons_zero]
    refine wpAnyH_take (i := 10) (v := .pointer (some ⟨x, 0, none⟩)) rfl (by kernel_rfl) (by kernel_rfl) (by kernel_rfl) (fun _ _ _ h => h) (Or.inl ⟨by kernel_rfl, fun w1 hSw => by clear hHeld; obtain ⟨k0, k1, k2, k3, k4, k5, k6, k7, k8, k9⟩ := HC.out _ hSw; go_simp⟩) hHeld ?_
    try simp only [Act.put]
    try simp only [List.getElem_toArray]
    try simp only [List.getElem_cons_succ]
    try simp only [List.getElem_cons_zero]
    try simp only [List.setIfInBounds_toArray]
    try simp only [List.set_cons_succ, List.set_cons_zero]
    refine wpAnyH_take (i := 11) (v := .pointer (some ⟨w.heap.size + 1, 2, none⟩)) rfl (by kernel_rfl) (by kernel_rfl) (by kernel_rfl) (fun _ _ _ h => h) (Or.inl ⟨by kernel_rfl, fun w1 hSw => by clear hHeld; obtain ⟨k0, k1, k2, k3, k4, k5, k6, k7, k8, k9⟩ := HC.out _ hSw; go_simp⟩) hHeld ?_
    try simp only [Act.put]
    try simp only [List.getElem_toArray]
    try simp only [List.getElem_cons_succ]
    try simp only [List.getElem_cons_zero]
    try simp only [List.setIfInBounds_toArray]
    try simp only [List.set_cons_succ, List.set_cons_zero]
    refine wpAnyH_take (i := 12) (v := .int .i64 o.att) rfl (by kernel_rfl) (by kernel_rfl) (by kernel_rfl) (fun _ _ _ h => h) (Or.inl ⟨by kernel_rfl, fun w1 hSw => by clear hHeld; obtain ⟨k0, k1, k2, k3, k4, k5, k6, k7, k8, k9⟩ := HC.out _ hSw; go_simp⟩) hHeld ?_
    try simp only [Act.put]
    try simp only [List.getElem_toArray]
    try simp only [List.getElem_cons_succ]
    try simp only [List.getElem_cons_zero]
    try simp only [List.setIfInBounds_toArray]
    try simp only [List.set_cons_succ, List.set_cons_zero]
    refine wpAnyH_take (i := 13) (v := .pointer (some ⟨w.heap.size + 1, 3, none⟩)) rfl (by kernel_rfl) (by kernel_rfl) (by kernel_rfl) (fun _ _ _ h => h) (Or.inl ⟨by kernel_rfl, fun w1 hSw => by clear hHeld; obtain ⟨k0, k1, k2, k3, k4, k5, k6, k7, k8, k9⟩ := HC.out _ hSw; go_simp⟩) hHeld ?_
    try simp only [Act.put]
    try simp only [List.getElem_toArray]
    try simp only [List.getElem_cons_succ]
    try simp only [List.getElem_cons_zero]
    try simp only [List.setIfInBounds_toArray]
    try simp only [List.set_cons_succ, List.set_cons_zero]
    refine wpAnyH_take (i := 14) (v := .int .i64 o.bdg) rfl (by kernel_rfl) (by kernel_rfl) (by kernel_rfl) (fun _ _ _ h => h) (Or.inl ⟨by kernel_rfl, fun w1 hSw => by clear hHeld; obtain ⟨k0, k1, k2, k3, k4, k5, k6, k7, k8, k9⟩ := HC.out _ hSw; go_simp⟩) hHeld ?_
    try simp only [Act.put]
    try simp only [List.getElem_toArray]
    try simp only [List.getElem_cons_succ]
    try simp only [List.getElem_cons_zero]
    try simp only [List.setIfInBounds_toArray]
    try simp only [List.set_cons_succ, List.set_cons_zero]
    refine wpAnyH_take (i := 15) (v := .pointer (some ⟨w.heap.size + 1, 4, none⟩)) rfl (by kernel_rfl) (by kernel_rfl) (by kernel_rfl) (fun _ _ _ h => h) (Or.inl ⟨by kernel_rfl, fun w1 hSw => by clear hHeld; obtain ⟨k0, k1, k2, k3, k4, k5, k6, k7, k8, k9⟩ := HC.out _ hSw; go_simp⟩) hHeld ?_
    try simp only [Act.put]
    try simp only [List.getElem_toArray]
    try simp only [List.getElem_cons_succ]
    try simp only [List.getElem_cons_zero]
    try simp only [List.setIfInBounds_toArray]
    try simp only [List.set_cons_succ, List.set_cons_zero]
    refine wpAnyH_take (i := 16) (v := .agg #[.int .i64 o.node, .int .i64 o.life]) rfl (by kernel_rfl) (by kernel_rfl) (by kernel_rfl) (fun _ _ _ h => h) (Or.inl ⟨by kernel_rfl, fun w1 hSw => by clear hHeld; obtain ⟨k0, k1, k2, k3, k4, k5, k6, k7, k8, k9⟩ := HC.out _ hSw; go_simp⟩) hHeld ?_
    try simp only [Act.put]
    try simp only [List.getElem_toArray]
    try simp only [List.getElem_cons_succ]
    try simp only [List.getElem_cons_zero]
    try simp only [List.setIfInBounds_toArray]
    try simp only [List.set_cons_succ, List.set_cons_zero]
    refine wpAnyH_ready (rs := [8]) (by kernel_rfl) (by simp) ?_
    refine AllReadyH.cons rfl (fun K hK => ?_) AllReadyH.nil
    go_simp
    refine (grant_any HP0.out.q HP0.out.ok o.att o.bdg o.node o.life).mono ?_
    rintro e w5 ⟨rfl, hq5, hm5⟩
    have HX5 := hide (HP0.out.xmv hm5)
    have HQ5 := hide hq5
    have HM5 := hide hm5
    refine hK.out _ _ (Bo.mv hHeld HP0.out.q hm5) (fun hHeld => ?_)
    clear hK K
    try simp only [Act.put]
    try simp only [List.getElem_toArray]
    try simp only [List.getElem_cons_succ]
    try simp only [List.getElem_cons_zero]
    try simp only [List.setIfInBounds_toArray]
    try simp only [List.set_cons_succ, List.set_cons_zero]
    refine wpAnyH_ready (rs := [17]) (by kernel_rfl) (by simp) ?_
    refine AllReadyH.cons rfl (fun K hK => ?_) AllReadyH.nil
    go_simp
    refine (rgrant_any HX5.out HP0.out.ok o.att o.bdg o.node o.life).mono ?_
    rintro e w6 ⟨rfl, hx6⟩
    have HF := hide (ChP.ahead HBd.out (ChP.both HP0.out HOk2.out HQ5.out HM5.out hx6))
    have hO6 : On x w5 w6 := by obtain ⟨_, _, _, _, _, h⟩ := hx6; exact h
    refine hK.out _ _ (Bo.on hHeld HX5.out.blk hO6) (fun hHeld => ?_)
    clear hK K
    try simp only [Act.put]
    try simp only [List.getElem_toArray]
    try simp only [List.getElem_cons_succ]
    try simp only [List.getElem_cons_zero]
    try simp only [List.setIfInBounds_toArray]
    try simp only [List.set_cons_succ, List.set_cons_zero]
    refine wpAnyH_take (i := 18) (v := .bool true) rfl (by kernel_rfl) (by kernel_rfl) (by kernel_rfl) (fun _ _ _ h => h) (Or.inl ⟨by kernel_rfl, fun w1 hSw => by clear hHeld; obtain ⟨k0, k1, k2, k3, k4, k5, k6, k7, k8, k9⟩ := HC.out _ hSw; go_simp⟩) hHeld ?_
    try simp only [Act.put]
    try simp only [List.getElem_toArray]
    try simp only [List.getElem_cons_succ]
    try simp only [List.getElem_cons_zero]
    try simp only [List.setIfInBounds_toArray]
    try simp only [List.set_cons_succ, List.set_cons_zero]
    refine wpAnyH_take (i := 19) (v := .bool true) rfl (by kernel_rfl) (by kernel_rfl) (by kernel_rfl) (fun _ _ _ h => h) (Or.inl ⟨by kernel_rfl, fun w1 hSw => by clear hHeld; obtain ⟨k0, k1, k2, k3, k4, k5, k6, k7, k8, k9⟩ := HC.out _ hSw; go_simp⟩) hHeld ?_
    try simp only [Act.put]
    try simp only [List.getElem_toArray]
    try simp only [List.getElem_cons_succ]
    try simp only [List.getElem_cons_zero]
    try simp only [List.setIfInBounds_toArray]
    try simp only [List.set_cons_succ, List.set_cons_zero]
    refine wpAnyH_done (by kernel_rfl) ?_ _
    clear hHeld
    go_wp2
    go_ret
    exact ⟨rfl, HF.out⟩
  have n2 : (o.st == 2) = false := by simpa using h2
  by_cases h3 : o.st = 3
  · have b3 : (o.st == 3) = true := by simpa using h3
    clear h3
    go_enter Try.func36, Try.ntmps36
    go_wp2_with fail
    generalize (w.alloc (pobj b x)).alloc o.oobj = W0 at *
    refine (expire_any HP.out.q HP.out.ok o.bdg).mono ?_
    rintro e w1 ⟨rfl, hq1, hm1⟩
    have HX1 := hide (HP.out.xmv hm1)
    have HBo1 := hide (HBo.out.mv HP.out.q hm1)
    have HQ1 := hide hq1
    have HM1 := hide hm1
    clear hq1 hm1
    obtain ⟨p0, p1, o0, o1, o2, o3, o4, o5, o6, o7⟩ := HC.out _ HBo1.out
    go_wp2_with fail
    refine (rexpire_any HX1.out HP.out.ok o.bdg).mono ?_
    rintro e w2 ⟨rfl, hx2⟩
    have HF := hide (ChP.ahead HB2.out (ChP.both HP.out (HP.out.ok.expire _) HQ1.out HM1.out hx2))
    clear hx2 HX1 HBo1 HQ1 HM1 HP HBo p0 p1 o0 o1 o2 o3 o4 o5 o6 o7
    have t1 : (exJ L o.bdg == exJ L o.bdg) = true := by simp
    have t2 : (exE L o.bdg == exE L o.bdg) = true := by simp
    generalize exJ L o.bdg = J at *
    generalize exE L o.bdg = E at *
    go_wp2
    go_ret
    exact ⟨rfl, HF.out⟩
  have n3 : (o.st == 3) = false := by simpa using h3
  by_cases h4 : o.st = 4
  · have b4 : (o.st == 4) = true := by simpa using h4
    clear h4
    go_enter Try.func36, Try.ntmps36
    go_wp2_with fail
    generalize (w.alloc (pobj b x)).alloc o.oobj = W0 at *
    refine (settle_any HP.out.q HP.out.ok o.bdg o.code o.bits).mono ?_
    rintro e w1 ⟨rfl, hq1, hm1⟩
    have HX1 := hide (HP.out.xmv hm1)
    have HBo1 := hide (HBo.out.mv HP.out.q hm1)
    have HQ1 := hide hq1
    have HM1 := hide hm1
    clear hq1 hm1
    obtain ⟨p0, p1, o0, o1, o2, o3, o4, o5, o6, o7⟩ := HC.out _ HBo1.out
    go_wp2_with fail
    refine (rsettle_any HX1.out HP.out.ok o.bdg o.code o.bits).mono ?_
    rintro e w2 ⟨rfl, hx2⟩
    have HF := hide (ChP.ahead HB2.out (ChP.both HP.out (HP.out.ok.settle _ _ _) HQ1.out HM1.out hx2))
    clear hx2 HX1 HBo1 HQ1 HM1 HP HBo p0 p1 o0 o1 o2 o3 o4 o5 o6 o7
    have t1 : (seJ L o.bdg o.code o.bits == seJ L o.bdg o.code o.bits) = true := by simp
    have t2 : (seE L o.bdg o.code o.bits == seE L o.bdg o.code o.bits) = true := by simp
    generalize seJ L o.bdg o.code o.bits = J at *
    generalize seE L o.bdg o.code o.bits = E at *
    go_wp2
    go_ret
    exact ⟨rfl, HF.out⟩
  have n4 : (o.st == 4) = false := by simpa using h4
  clear h0 h2 h3 h4
  go_enter Try.func36, Try.ntmps36
  go_wp2
  go_ret
  exact ⟨rfl, ChP.ahead HB2.out (ChP.same HP.out (Below.refl _ _))⟩
end
end Go.Proofs.Ytkchddphmkgilaa
