import Derived.Test.YtkchddphmkgilaaQuPb
namespace Go.Proofs.Ytkchddphmkgilaa
open Go.RowKit

section
variable {B : Nat} {m : Int} {w : World} {b : Nat} {v : Value} {x : Nat} {ad : Option Addr} {ab cap : Nat} {L : List Rr}
set_option maxHeartbeats 4000000 in
set_option maxRecDepth 8000 in
theorem answers_any (h : Pr B m w b v x ad ab cap L) (o : Rr) : Calls Try.prog 14 #[.agg #[.pointer (some ⟨b, 0, none⟩), .pointer (some ⟨x, 0, none⟩)], o.val] w fun e w' => e = .returned (.bool true) ∧ ChP B m b v x ab L w w' := by
  have hl := h.ok.len
  have hg := guardR
  have hb2 : Below w.heap.size w ((w.alloc (pobj b x)).alloc o.oobj) := (below_alloc w _).alloc (by simp) _
  have HB2 := hide hb2
  have HP := hide (h.below hb2)
  have HBo := hide (Bo.new w b x o)
  have HC : Hid (∀ V, Below ((w.alloc (pobj b x)).alloc o.oobj).heap.size ((w.alloc (pobj b x)).alloc o.oobj) V → _ ∧ V.cell? ⟨x, 1, none⟩ = some (.slice ad L.length cap)) := hide (fun V hV => ⟨((Bo.new w b x o).below hV).cells, ((h.below hb2).x.below hV).c1⟩)
  clear hb2 h
  by_cases h1 : o.st = 1
  · have b1 : (o.st == 1) = true := by simpa using h1
    clear h1
    go_enter Try.func14, Try.ntmps14
    go_wp2_with fail
    generalize (w.alloc (pobj b x)).alloc o.oobj = W0 at *
    have t1 : (hd L == hd L) = true := by simp
    refine wp_region_held_drew (S := fun w' => Below W0.heap.size W0 w') (by kernel_rfl) (⟨rfl, rfl, rfl, Nat.le_refl _, fun _ _ => rfl⟩) (fun hHeld => ?_)
    refine wpAnyH_take (i := 0) (v := .pointer (some ⟨w.heap.size, 0, none⟩)) rfl (by kernel_rfl) (by kernel_rfl) (by kernel_rfl) (fun _ _ _ h => h) (Or.inl ⟨by kernel_rfl, fun w1 hSw => by clear hHeld; obtain ⟨⟨p0, p1, o0, o1, o2, o3, o4, o5, o6, o7⟩, cx⟩ := HC.out _ hSw; go_simp⟩) hHeld ?_
    try simp only [Act.put]
    try simp only [List.getElem_toArray]
    try simp only [List.getElem_cons_succ]
    try simp only [List.getElem_cons_zero]
    try simp only [List.setIfInBounds_toArray]
    try simp only [List.set_cons_succ, List.set_cons_zero]
    refine wpAnyH_take (i := 1) (v := .pointer (some ⟨b, 0, none⟩)) rfl (by kernel_rfl) (by kernel_rfl) (by kernel_rfl) (fun _ _ _ h => h) (Or.inl ⟨by kernel_rfl, fun w1 hSw => by clear hHeld; obtain ⟨⟨p0, p1, o0, o1, o2, o3, o4, o5, o6, o7⟩, cx⟩ := HC.out _ hSw; go_simp⟩) hHeld ?_
    try simp only [Act.put]
    try simp only [List.getElem_toArray]
    try simp only [List.getElem_cons_succ]
    try simp only [List.getElem_cons_zero]
    try simp only [List.setIfInBounds_toArray]
    try simp only [List.set_cons_succ, List.set_cons_zero]
    refine wpAnyH_take (i := 3) (v := .pointer (some ⟨w.heap.size, 1, none⟩)) rfl (by kernel_rfl) (by kernel_rfl) (by kernel_rfl) (fun _ _ _ h => h) (Or.inl ⟨by kernel_rfl, fun w1 hSw => by clear hHeld; obtain ⟨⟨p0, p1, o0, o1, o2, o3, o4, o5, o6, o7⟩, cx⟩ := HC.out _ hSw; go_simp⟩) hHeld ?_
    try simp only [Act.put]
    try simp only [List.getElem_toArray]
    try simp only [List.getElem_cons_succ]
    try simp only [List.getElem_cons_zero]
    try simp only [List.setIfInBounds_toArray]
    try simp only [List.set_cons_succ, List.set_cons_zero]
    refine wpAnyH_take (i := 4) (v := .pointer (some ⟨x, 0, none⟩)) rfl (by kernel_rfl) (by kernel_rfl) (by kernel_rfl) (fun _ _ _ h => h) (Or.inl ⟨by kernel_rfl, fun w1 hSw => by clear hHeld; obtain ⟨⟨p0, p1, o0, o1, o2, o3, o4, o5, o6, o7⟩, cx⟩ := HC.out _ hSw; go_simp⟩) hHeld ?_
    try simp only [Act.put]
    try simp only [List.getElem_toArray]
    try simp only [List.getElem_cons_succ]
    try simp only [List.getElem_cons_zero]
    try simp only [List.setIfInBounds_toArray]
    try simp only [List.set_cons_succ, List.set_cons_zero]
    refine wpAnyH_ready (rs := [2]) (by kernel_rfl) (by simp) ?_
    refine AllReadyH.cons rfl (fun K hK => ?_) AllReadyH.nil
    go_simp
    refine (qhead_any (HP.out.below hHeld).q hl).mono ?_
    rintro e w5 ⟨rfl, hB5⟩
    refine hK.out _ _ (Below.trans hHeld (hB5.mono hHeld.size)) (fun hHeld => ?_)
    clear hK K
    try simp only [Act.put]
    try simp only [List.getElem_toArray]
    try simp only [List.getElem_cons_succ]
    try simp only [List.getElem_cons_zero]
    try simp only [List.setIfInBounds_toArray]
    try simp only [List.set_cons_succ, List.set_cons_zero]
    refine wpAnyH_ready (rs := [5]) (by kernel_rfl) (by simp) ?_
    refine AllReadyH.cons rfl (fun K hK => ?_) AllReadyH.nil
    go_simp
    refine (rhead_any (HP.out.below hHeld).x HP.out.ok).mono ?_
    rintro e w6 ⟨rfl, rfl⟩
    refine hK.out _ _ (hHeld) (fun hHeld => ?_)
    clear hK K
    try simp only [Act.put]
    try simp only [List.getElem_toArray]
    try simp only [List.getElem_cons_succ]
    try simp only [List.getElem_cons_zero]
    try simp only [List.setIfInBounds_toArray]
    try simp only [List.set_cons_succ, List.set_cons_zero]
    refine wpAnyH_take (i := 6) (v := .bool true) rfl (by kernel_rfl) (by kernel_rfl) (by kernel_rfl) (fun _ _ _ h => h) (Or.inl ⟨by kernel_rfl, fun w1 hSw => by clear hHeld; obtain ⟨⟨p0, p1, o0, o1, o2, o3, o4, o5, o6, o7⟩, cx⟩ := HC.out _ hSw; go_simp⟩) hHeld ?_
    try simp only [Act.put]
    try simp only [List.getElem_toArray]
    try simp only [List.getElem_cons_succ]
    try simp only [List.getElem_cons_zero]
    try simp only [List.setIfInBounds_toArray]
    try simp only [List.set_cons_succ, List.set_cons_zero]
    refine wpAnyH_take (i := 7) (v := .bool true) rfl (by kernel_rfl) (by kernel_rfl) (by kernel_rfl) (fun _ _ _ h => h) (Or.inl ⟨by kernel_rfl, fun w1 hSw => by clear hHeld; obtain ⟨⟨p0, p1, o0, o1, o2, o3, o4, o5, o6, o7⟩, cx⟩ := HC.out _ hSw; go_simp⟩) hHeld ?_
    try simp only [Act.put]
    try simp only [List.getElem_toArray]
    try simp only [List.getElem_cons_succ]
    try simp only [List.getElem_cons_zero]
    try simp only [List.setIfInBounds_toArray]
    try simp only [List.set_cons_succ, List.set_cons_zero]
    refine wpAnyH_done (by kernel_rfl) ?_ _
    have HBf := hide hHeld
    clear hHeld
    go_wp2
    go_ret
    exact ⟨rfl, ChP.ahead HB2.out (ChP.same HP.out HBf.out)⟩
  have n1 : (o.st == 1) = false := by simpa using h1
  by_cases h5 : o.st = 5
  · have b5 : (o.st == 5) = true := by simpa using h5
    clear h5
    go_enter Try.func14, Try.ntmps14
    go_wp2_with fail
    generalize (w.alloc (pobj b x)).alloc o.oobj = W0 at *
    refine (qrow_any HP.out.q hl o.att).mono ?_
    rintro e w1 ⟨rfl, hB1⟩
    have he := eqlR_any (rowR L o.att) (rowR L o.att)
    rw [decide_eq_true rfl] at he
    have t2 : ∀ y : Bool, (y == y) = true := fun y => by simp
    have t3 := t2 (rowB L o.att)
    have HRc := hide (fun V (hV : Below W0.heap.size W0 V) => rrow_any (HP.out.below hV).x hl o.att)
    generalize (rowB L o.att) = Bb at *
    generalize rowR L o.att = rr at *
    have HB1 := hide (hB1.alloc hB1.size rr.obj)
    have HY1 : Hid (Bx (w1.alloc rr.obj) w1.heap.size rr) := hide (heap_alloc_new w1 _)
    clear hB1
    obtain ⟨⟨p0, p1, o0, o1, o2, o3, o4, o5, o6, o7⟩, cx⟩ := HC.out _ HB1.out
    go_wp2_with fail
    refine (HRc.out _ HB1.out).mono ?_
    rintro e w2 ⟨rfl, hB2⟩
    have hy2 : Bx w2 w1.heap.size rr := HY1.out.keep (hB2.block _ HY1.out.lt)
    have hyl := hy2.lt
    obtain ⟨d0, d1, d2, d3, d4, d5, d6, d7⟩ := hy2.cells
    have HBf := hide ((HB1.out.trans (hB2.mono HB1.out.size)).alloc (HB1.out.trans (hB2.mono HB1.out.size)).size rr.obj)
    clear hB2 hy2 HY1 HRc p0 p1 o0 o1 o2 o3 o4 o5 o6 o7 cx HB1
    cases Bb <;>
    · go_wp2
      go_ret
      exact ⟨rfl, ChP.ahead HB2.out (ChP.same HP.out HBf.out)⟩
  have n5 : (o.st == 5) = false := by simpa using h5
  by_cases h6 : o.st = 6
  · have b6 : (o.st == 6) = true := by simpa using h6
    clear h6
    go_enter Try.func14, Try.ntmps14
    go_wp2_with fail
    generalize (w.alloc (pobj b x)).alloc o.oobj = W0 at *
    refine (qfind_any HP.out.q hl o.bdg).mono ?_
    rintro e w1 ⟨rfl, hB1⟩
    have he := eqlR_any (fnd o.bdg L) (fnd o.bdg L)
    rw [decide_eq_true rfl] at he
    have t2 : ∀ y : Bool, (y == y) = true := fun y => by simp
    have t3 := t2 (!decide (fnd o.bdg L = rr0))
    have HRc := hide (fun V (hV : Below W0.heap.size W0 V) => rfind_any (HP.out.below hV).x HP.out.ok o.bdg)
    generalize (!decide (fnd o.bdg L = rr0)) = Bb at *
    generalize fnd o.bdg L = rr at *
    have HB1 := hide (hB1.alloc hB1.size rr.obj)
    have HY1 : Hid (Bx (w1.alloc rr.obj) w1.heap.size rr) := hide (heap_alloc_new w1 _)
    clear hB1
    obtain ⟨⟨p0, p1, o0, o1, o2, o3, o4, o5, o6, o7⟩, cx⟩ := HC.out _ HB1.out
    go_wp2_with fail
    refine (HRc.out _ HB1.out).mono ?_
    rintro e w2 ⟨rfl, hB2⟩
    have hy2 : Bx w2 w1.heap.size rr := HY1.out.keep (hB2.block _ HY1.out.lt)
    have hyl := hy2.lt
    obtain ⟨d0, d1, d2, d3, d4, d5, d6, d7⟩ := hy2.cells
    have HBf := hide ((HB1.out.trans (hB2.mono HB1.out.size)).alloc (HB1.out.trans (hB2.mono HB1.out.size)).size rr.obj)
    clear hB2 hy2 HY1 HRc p0 p1 o0 o1 o2 o3 o4 o5 o6 o7 cx HB1
    cases Bb <;>
    · go_wp2
      go_ret
      exact ⟨rfl, ChP.ahead HB2.out (ChP.same HP.out HBf.out)⟩
  have n6 : (o.st == 6) = false := by simpa using h6
  by_cases h7 : o.st = 7
  · have b7 : (o.st == 7) = true := by simpa using h7
    clear h7
    go_enter Try.func14, Try.ntmps14
    go_wp2_with fail
    generalize (w.alloc (pobj b x)).alloc o.oobj = W0 at *
    refine wp_region_held_drew (S := fun w' => Below W0.heap.size W0 w') (by kernel_rfl) (⟨rfl, rfl, rfl, Nat.le_refl _, fun _ _ => rfl⟩) (fun hHeld => ?_)
    refine wpAnyH_take (i := 0) (v := .pointer (some ⟨w.heap.size, 0, none⟩)) rfl (by kernel_rfl) (by kernel_rfl) (by kernel_rfl) (fun _ _ _ h => h) (Or.inl ⟨by kernel_rfl, fun w1 hSw => by clear hHeld; obtain ⟨⟨p0, p1, o0, o1, o2, o3, o4, o5, o6, o7⟩, cx⟩ := HC.out _ hSw; go_simp⟩) hHeld ?_
    try simp only [Act.put]
    try simp only [List.getElem_toArray]
    try simp only [List.getElem_cons_succ]
    try simp only [List.getElem_cons_zero]
    try simp only [List.setIfInBounds_toArray]
    try simp only [List.set_cons_succ, List.set_cons_zero]
    refine wpAnyH_take (i := 1) (v := .pointer (some ⟨b, 0, none⟩)) rfl (by kernel_rfl) (by kernel_rfl) (by kernel_rfl) (fun _ _ _ h => h) (Or.inl ⟨by kernel_rfl, fun w1 hSw => by clear hHeld; obtain ⟨⟨p0, p1, o0, o1, o2, o3, o4, o5, o6, o7⟩, cx⟩ := HC.out _ hSw; go_simp⟩) hHeld ?_
    try simp only [Act.put]
    try simp only [List.getElem_toArray]
    try simp only [List.getElem_cons_succ]
    try simp only [List.getElem_cons_zero]
    try simp only [List.setIfInBounds_toArray]
    try simp only [List.set_cons_succ, List.set_cons_zero]
    refine wpAnyH_take (i := 3) (v := .pointer (some ⟨w.heap.size, 1, none⟩)) rfl (by kernel_rfl) (by kernel_rfl) (by kernel_rfl) (fun _ _ _ h => h) (Or.inl ⟨by kernel_rfl, fun w1 hSw => by clear hHeld; obtain ⟨⟨p0, p1, o0, o1, o2, o3, o4, o5, o6, o7⟩, cx⟩ := HC.out _ hSw; go_simp⟩) hHeld ?_
    try simp only [Act.put]
    try simp only [List.getElem_toArray]
    try simp only [List.getElem_cons_succ]
    try simp only [List.getElem_cons_zero]
    try simp only [List.setIfInBounds_toArray]
    try simp only [List.set_cons_succ, List.set_cons_zero]
    refine wpAnyH_take (i := 4) (v := .pointer (some ⟨x, 0, none⟩)) rfl (by kernel_rfl) (by kernel_rfl) (by kernel_rfl) (fun _ _ _ h => h) (Or.inl ⟨by kernel_rfl, fun w1 hSw => by clear hHeld; obtain ⟨⟨p0, p1, o0, o1, o2, o3, o4, o5, o6, o7⟩, cx⟩ := HC.out _ hSw; go_simp⟩) hHeld ?_
    try simp only [Act.put]
    try simp only [List.getElem_toArray]
    try simp only [List.getElem_cons_succ]
    try simp only [List.getElem_cons_zero]
    try simp only [List.setIfInBounds_toArray]
    try simp only [List.set_cons_succ, List.set_cons_zero]
    refine wpAnyH_take (i := 5) (v := .pointer (some ⟨x, 0, none⟩)) rfl (by kernel_rfl) (by kernel_rfl) (by kernel_rfl) (fun _ _ _ h => h) (Or.inl ⟨by kernel_rfl, fun w1 hSw => by clear hHeld; obtain ⟨⟨p0, p1, o0, o1, o2, o3, o4, o5, o6, o7⟩, cx⟩ := HC.out _ hSw; go_simp⟩) hHeld ?_
    try simp only [Act.put]
    try simp only [List.getElem_toArray]
    try simp only [List.getElem_cons_succ]
    try simp only [List.getElem_cons_zero]
    try simp only [List.setIfInBounds_toArray]
    try simp only [List.set_cons_succ, List.set_cons_zero]
    refine wpAnyH_take (i := 6) (v := .pointer (some ⟨x, 1, none⟩)) rfl (by kernel_rfl) (by kernel_rfl) (by kernel_rfl) (fun _ _ _ h => h) (Or.inl ⟨by kernel_rfl, fun w1 hSw => by clear hHeld; obtain ⟨⟨p0, p1, o0, o1, o2, o3, o4, o5, o6, o7⟩, cx⟩ := HC.out _ hSw; go_simp⟩) hHeld ?_
    try simp only [Act.put]
    try simp only [List.getElem_toArray]
    try simp only [List.getElem_cons_succ]
    try simp only [List.getElem_cons_zero]
    try simp only [List.setIfInBounds_toArray]
    try simp only [List.set_cons_succ, List.set_cons_zero]
    refine wpAnyH_take (i := 7) (v := .slice ad L.length cap) rfl (by kernel_rfl) (by kernel_rfl) (by kernel_rfl) (fun _ _ _ h => h) (Or.inl ⟨by kernel_rfl, fun w1 hSw => by clear hHeld; obtain ⟨⟨p0, p1, o0, o1, o2, o3, o4, o5, o6, o7⟩, cx⟩ := HC.out _ hSw; go_simp⟩) hHeld ?_
    try simp only [Act.put]
    try simp only [List.getElem_toArray]
    try simp only [List.getElem_cons_succ]
    try simp only [List.getElem_cons_zero]
    try simp only [List.setIfInBounds_toArray]
    try simp only [List.set_cons_succ, List.set_cons_zero]
    refine wpAnyH_ready (rs := [2]) (by kernel_rfl) (by simp) ?_
    refine AllReadyH.cons rfl (fun K hK => ?_) AllReadyH.nil
    go_simp
    refine (qrows_any (HP.out.below hHeld).q hl).mono ?_
    rintro e w5 ⟨rfl, ho5, hB5⟩
    have HR5 := hide (Rs.own0 ho5)
    refine hK.out _ _ (Below.trans hHeld (hB5.mono hHeld.size)) (fun hHeld => ?_)
    clear hK K
    try simp only [Act.put]
    try simp only [List.getElem_toArray]
    try simp only [List.getElem_cons_succ]
    try simp only [List.getElem_cons_zero]
    try simp only [List.setIfInBounds_toArray]
    try simp only [List.set_cons_succ, List.set_cons_zero]
    refine wpAnyH_ready (rs := [8]) (by kernel_rfl) (by simp) ?_
    refine AllReadyH.cons rfl (fun K hK => ?_) AllReadyH.nil
    go_simp
    refine (same_self HR5.out (HP.out.below hHeld).x.rs (by omega)).mono ?_
    rintro e w6 ⟨rfl, hB6⟩
    refine hK.out _ _ (Below.trans hHeld (hB6.mono hHeld.size)) (fun hHeld => ?_)
    clear hK K
    try simp only [Act.put]
    try simp only [List.getElem_toArray]
    try simp only [List.getElem_cons_succ]
    try simp only [List.getElem_cons_zero]
    try simp only [List.setIfInBounds_toArray]
    try simp only [List.set_cons_succ, List.set_cons_zero]
    refine wpAnyH_take (i := 9) (v := .bool true) rfl (by kernel_rfl) (by kernel_rfl) (by kernel_rfl) (fun _ _ _ h => h) (Or.inl ⟨by kernel_rfl, fun w1 hSw => by clear hHeld; obtain ⟨⟨p0, p1, o0, o1, o2, o3, o4, o5, o6, o7⟩, cx⟩ := HC.out _ hSw; go_simp⟩) hHeld ?_
    try simp only [Act.put]
    try simp only [List.getElem_toArray]
    try simp only [List.getElem_cons_succ]
    try simp only [List.getElem_cons_zero]
    try simp only [List.setIfInBounds_toArray]
    try simp only [List.set_cons_succ, List.set_cons_zero]
    refine wpAnyH_done (by kernel_rfl) ?_ _
    have HBf := hide hHeld
    clear hHeld
    go_wp2
    go_ret
    exact ⟨rfl, ChP.ahead HB2.out (ChP.same HP.out HBf.out)⟩
  have n7 : (o.st == 7) = false := by simpa using h7
  by_cases h8 : o.st = 8
  · have b8 : (o.st == 8) = true := by simpa using h8
    clear h8
    go_enter Try.func14, Try.ntmps14
    go_wp2_with fail
    generalize (w.alloc (pobj b x)).alloc o.oobj = W0 at *
    refine (qopen_any HP.out.q HP.out.ok).mono ?_
    rintro e w1 ⟨rfl, hB1⟩
    have HB1 := hide hB1
    clear hB1
    obtain ⟨⟨p0, p1, o0, o1, o2, o3, o4, o5, o6, o7⟩, cx⟩ := HC.out _ HB1.out
    go_wp2_with fail
    refine (ropen_any (HP.out.below HB1.out).x HP.out.ok).mono ?_
    rintro e w2 ⟨rfl, hB2⟩
    have HBf := hide (HB1.out.trans (hB2.mono HB1.out.size))
    have t1 : ((opn m L).1 == (opn m L).1) = true := by simp
    have t2 : ((opn m L).2 == (opn m L).2) = true := by simp
    generalize (opn m L).1 = J at *
    generalize (opn m L).2 = E at *
    clear hB2 p0 p1 o0 o1 o2 o3 o4 o5 o6 o7 cx
    go_wp2
    go_ret
    exact ⟨rfl, ChP.ahead HB2.out (ChP.same HP.out HBf.out)⟩
  have n8 : (o.st == 8) = false := by simpa using h8
  clear h1 h5 h6 h7 h8
  go_enter Try.func14, Try.ntmps14
  go_wp2_with fail
  generalize (w.alloc (pobj b x)).alloc o.oobj = W0 at *
  refine (changes_any HP.out o).mono ?_
  rintro e w1 ⟨rfl, hc1⟩
  have HF := hide (ChP.ahead HB2.out hc1)
  clear hc1
  go_wp2
  go_ret
  exact ⟨rfl, HF.out⟩
end
end Go.Proofs.Ytkchddphmkgilaa
