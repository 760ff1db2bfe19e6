import Derived.Test.YtnbmgddkaclneaaNtG
namespace Go.Proofs.Ytnbmgddkaclneaa
open Go.RowKit

set_option maxHeartbeats 1000000 in
theorem rat_any {base : Nat} {w : World} {b : Nat} {v : Value} {l : List Dg} {s p : Int} (h : Bag 30 base w b v l s) :
    Calls Try.prog 27 #[.pointer (some ⟨b, 0, none⟩), .int .i64 p] w fun e w' => e = .returned (.tuple #[(atD l p).val, .int .i64 (atE l p)]) ∧ Below w.heap.size w w' := by
  obtain ⟨ad, cap, hv, hlc, hcm, had⟩ := h.form
  have c0 := h.c0
  rw [hv] at c0
  have hlt := h.lt
  by_cases hp : 0 ≤ p ∧ p < (l.length : Int)
  · obtain ⟨g, rfl⟩ := had (by omega)
    obtain ⟨n, rfl⟩ : ∃ n : Nat, p = (n : Int) := ⟨p.toNat, by omega⟩
    have hn : n < l.length := by omega
    have e1 : atD l (n : Int) = l[n] := by unfold atD; rw [if_pos hp, Int.toNat_natCast, List.getD_eq_getElem?_getD, List.getElem?_eq_getElem hn]; rfl
    have e2 : atE l (n : Int) = 0 := by unfold atE; rw [if_pos hp]
    rw [e1, e2]
    subst hv
    obtain ⟨k0, k1, k2, k3, k4, k5⟩ := h.six hn
    have hg : g < w.heap.size := (h.ftlt g (.inr rfl)).2
    generalize l[n] = d at *
    have b0 : decide ((n : Int) < 0) = false := by simp
    have b1 : decide ((l.length : Int) ≤ (n : Int)) = false := by simp; omega
    clear e1 e2 hp
    go_enter Try.func27, Try.ntmps27
    go_wp2
    refine bodyPost_ret (by rw [results_cell_tmp rfl]; go_simp; rfl) rfl ?_
    exact ⟨rfl, (Below.refl _ w).alloc (Nat.le_refl _) _⟩
  · have e1 : atD l p = dg0 := by unfold atD; rw [if_neg hp]
    have e2 : atE l p = 30 := by unfold atE; rw [if_neg hp]
    rw [e1, e2]
    clear e1 e2
    by_cases hp0 : p < 0
    · have b0 : decide (p < 0) = true := by simp; omega
      clear hp hp0 h hv had
      go_enter Try.func27, Try.ntmps27
      go_wp2
      refine bodyPost_ret (by rw [results_cell_tmp rfl]; go_simp; rfl) rfl ?_
      exact ⟨rfl, (Below.refl _ w).alloc (Nat.le_refl _) _⟩
    · have b0 : decide (p < 0) = false := by simp; omega
      have b1 : decide ((l.length : Int) ≤ p) = true := by simp; omega
      clear hp hp0 h hv had
      go_enter Try.func27, Try.ntmps27
      go_wp2
      refine bodyPost_ret (by rw [results_cell_tmp rfl]; go_simp; rfl) rfl ?_
      exact ⟨rfl, (Below.refl _ w).alloc (Nat.le_refl _) _⟩

set_option maxHeartbeats 1000000 in
set_option maxRecDepth 8000 in
theorem rsend_any {base : Nat} {w : World} {b : Nat} {v : Value} {l : List Dg} {s : Int} (h : Bag 30 base w b v l s) (fn fl tn tl : Int) (data : ByteArray) (hs0 : 0 ≤ s) (hs : s < 9223372036854775807) (hl : (l.length + 1) * 56 ≤ 140737488355328) :
    Calls Try.prog 24 #[.pointer (some ⟨b, 0, none⟩), .agg #[.int .i64 fn, .int .i64 fl], .agg #[.int .i64 tn, .int .i64 tl], .string data] w fun e w' =>
      e = .returned (.int .i64 (s + 1)) ∧ ∃ v', Bag 30 base w' b v' (l ++ [⟨s + 1, fn, fl, tn, tl, data⟩]) (s + 1) ∧ Mv (Ft b v) (Ft b v') w w' := by
  obtain ⟨i0, hi, hz0, hz1, hz2⟩ := info_parts Try.infoD
  obtain ⟨ad, cap, hv, hlc, hcm, had⟩ := h.form
  have hlt := h.lt
  have c1 := h.c1
  have f1 := h.z 1
  go_enter Try.func24, Try.ntmps24
  go_wp2
  obtain ⟨W1, hW1⟩ : ∃ W1, (((w.setCell ⟨b, 1, none⟩ (.int .i64 (s + 1))).alloc (.cells #[.int .i64 fn, .int .i64 fl] 33)).alloc (.cells #[.int .i64 tn, .int .i64 tl] 33)) = W1 := ⟨_, rfl⟩
  have HB1 : Bag 30 base W1 b v l (s + 1) := by rw [← hW1]; exact ((h.set1 _).alloc _).alloc _
  have sz1 : W1.heap.size = w.heap.size + 2 := by rw [← hW1]; simp
  have d0 : W1.cell? ⟨w.heap.size, 0, none⟩ = some (.int .i64 fn) := by rw [← hW1]; clear hW1; go_simp
  have d1 : W1.cell? ⟨w.heap.size, 1, none⟩ = some (.int .i64 fl) := by rw [← hW1]; clear hW1; go_simp
  have d2 : W1.cell? ⟨w.heap.size + 1, 0, none⟩ = some (.int .i64 tn) := by rw [← hW1]; clear hW1; go_simp
  have d3 : W1.cell? ⟨w.heap.size + 1, 1, none⟩ = some (.int .i64 tl) := by rw [← hW1]; clear hW1; go_simp
  have HM1 : Hid (Mv (Ft b v) (Ft b v) w W1) := by
    refine ⟨by rw [← hW1]; rfl, by rw [← hW1]; rfl, by rw [← hW1]; rfl, by omega, fun k hk hn => ?_, fun k hk => .inl hk⟩
    rw [← hW1, Below.heap_alloc _ _ k (by simp; omega), Below.heap_alloc _ _ k (by simpa using hk), Below.heap_setCell _ _ _ k (fun e => hn (.inl e))]
  rw [hW1]
  clear hW1 c1 f1 hv had
  have c0 := HB1.c0
  have c1 := HB1.c1
  have c0a : ∀ o, (W1.alloc o).cell? ⟨b, 0, none⟩ = some v := fun o => Lib.cell?_alloc_some o c0
  have HV : Hid (∀ k, v.ownBlock = some k → k < w.heap.size ∧ k ≠ b) := fun k hk => ⟨(h.row.lt k hk).2, fun e => h.apt (by rw [← e]; exact hk)⟩
  have hbase : base ≤ w.heap.size := Nat.le_trans h.low (Nat.le_of_lt hlt)
  obtain ⟨o6, ho6⟩ : ∃ o6, Obj.cells #[.int .i64 (s + 1), .int .i64 fn, .int .i64 fl, .int .i64 tn, .int .i64 tl, .string data] 46 (0, 0) = o6 := ⟨_, rfl⟩
  have HL : Hid (∀ (ops : Array Oper) (o : Oper) (a : Act) (K : Act → World → Prop) (Q : Exit → Act → World → Prop) (E : Prop), o.guard = none → o.op = .call { callee := .builtin .append, args := #[.tmp 20, .tmp 29], argTypes := #[28, 28] } → a.eval (.tmp 20) = v → a.eval (.tmp 29) = .slice (some ⟨w.heap.size + 2, 0, none⟩) 1 1 →
      (∀ g cap' w2, w2.ownsRow base 46 6 (.slice (some ⟨g, 0, none⟩) (l.length + 1) cap') (l.length + 1) (dcs l ++ [.int .i64 (s + 1), .int .i64 fn, .int .i64 fl, .int .i64 tn, .int .i64 tl, .string data]) → (W1.drew.alloc o6).grownBy w2 v.ownBlock → (v.ownBlock = some g ∨ g = w.heap.size + 3) → w2.cell? ⟨b, 0, none⟩ = some v → w2.frozen? ⟨b, 0, none⟩ = false → (w2.cell? ⟨w.heap.size, 0, none⟩ = some (.int .i64 fn) ∧ w2.cell? ⟨w.heap.size, 1, none⟩ = some (.int .i64 fl) ∧ w2.cell? ⟨w.heap.size + 1, 0, none⟩ = some (.int .i64 tn) ∧ w2.cell? ⟨w.heap.size + 1, 1, none⟩ = some (.int .i64 tl) ∧ w2.cell? ⟨b, 1, none⟩ = some (.int .i64 (s + 1))) → K (a.put o.dst (.slice (some ⟨g, 0, none⟩) (l.length + 1) cap')) w2) →
      if Region.wanted o (yielded ops a.tmps) = true then Oper.wp Try.prog o a (W1.drew.alloc o6) K Q else E) := by
    intro ops o a K Q E hgd ho h20 h29 hK
    refine step_append_lies _ hgd (.tmp 20) (.tmp 29) 28 ho base 46 i0 (.agg #[.int .i64 0, .int .i64 0, .int .i64 0, .int .i64 0, .int .i64 0, .string ByteArray.empty]) 6 56 Try.underlying28 hi hz0 hz1 hz2 rfl (by decide) v l.length (dcs l) h20 ((HB1.drew.alloc _).row) ⟨w.heap.size + 2, 0, none⟩ 1 1 [.int .i64 (s + 1), .int .i64 fn, .int .i64 fl, .int .i64 tn, .int .i64 tl, .string data] h29 rfl
      (World.news_of_block (cs := #[.int .i64 (s + 1), .int .i64 fn, .int .i64 fl, .int .i64 tn, .int .i64 tl, .string data]) (t := 46) (fr := (0, 0)) (by have := heap_alloc_new W1.drew o6; rw [show W1.drew.heap.size = w.heap.size + 2 from sz1, ← ho6] at this; rw [← ho6]; exact this)) (by simp [Value.oneCell']) (by decide) (by unfold maxLen; omega) (by omega) (by rw [World.size_alloc]; show base ≤ W1.heap.size + 1; omega) (w.heap.size + 3) (by rw [World.size_alloc]; show W1.heap.size + 1 = _; omega) ?_
    intro g cap' w2 hown hgrow hat _
    have far : ∀ (ad : Addr) (u : Value), W1.cell? ad = some u → (∀ k, v.ownBlock = some k → k ≠ ad.block) → w2.cell? ad = some u := fun ad u h1 h3 => hgrow.cell (Lib.cell?_alloc_some (W := W1.drew) o6 h1) (fun e => h3 _ e.symm rfl)
    refine hK g cap' w2 hown hgrow hat ?_ ?_ ⟨far _ _ d0 (fun k hk => Nat.ne_of_lt (HV.out k hk).1), far _ _ d1 (fun k hk => Nat.ne_of_lt (HV.out k hk).1), far _ _ d2 (fun k hk => Nat.ne_of_lt (Nat.lt_succ_of_lt (HV.out k hk).1)), far _ _ d3 (fun k hk => Nat.ne_of_lt (Nat.lt_succ_of_lt (HV.out k hk).1)), far _ _ c1 (fun k hk => (HV.out k hk).2)⟩
    · exact hgrow.cell (Lib.cell?_alloc_some (W := W1.drew) o6 c0) (fun e => h.apt e.symm)
    · exact (hgrow.frozen_far ⟨b, 0, none⟩ (by show b < (W1.drew.alloc o6).heap.size; rw [World.size_alloc]; show b < W1.heap.size + 1; omega) (fun e => h.apt e.symm)).trans ((HB1.drew.alloc o6).z 0)
  have hbn0 : b ≠ w.heap.size := by omega
  have hbn1 : b ≠ w.heap.size + 1 := by omega
  have HB1' := hide HB1
  have H := hide h
  have SZ := hide sz1
  have HO := hide ho6
  clear HB1 h hi hz0 hz1 hz2 i0 hlc hcm hs hs0 hl hbase
  refine wp_region_held_drew (S := fun w' => w'.cell? ⟨w.heap.size, 0, none⟩ = some (.int .i64 fn) ∧ w'.cell? ⟨w.heap.size, 1, none⟩ = some (.int .i64 fl) ∧ w'.cell? ⟨w.heap.size + 1, 0, none⟩ = some (.int .i64 tn) ∧ w'.cell? ⟨w.heap.size + 1, 1, none⟩ = some (.int .i64 tl) ∧ w'.cell? ⟨b, 1, none⟩ = some (.int .i64 (s + 1))) (by kernel_rfl) ⟨d0, d1, d2, d3, c1⟩ (fun hHeld => ?_)
  refine wpAnyH_take (i := 0) (v := (.pointer (some ⟨b, 0, none⟩))) rfl (by kernel_rfl) (by kernel_rfl) (by kernel_rfl) (fun _ _ _ h => h) (Or.inl ⟨by rfl, fun w1 hSw => by obtain ⟨q0, q1, q2, q3, q4⟩ := hSw; clear hHeld; go_simp⟩) hHeld ?_
  simp only [Act.put, List.setIfInBounds_toArray]
  refine wpAnyH_take (i := 1) (v := (.pointer (some ⟨b, 0, none⟩))) rfl (by kernel_rfl) (by kernel_rfl) (by kernel_rfl) (fun _ _ _ h => h) (Or.inl ⟨by rfl, fun w1 hSw => by obtain ⟨q0, q1, q2, q3, q4⟩ := hSw; clear hHeld; go_simp⟩) hHeld ?_
  simp only [Act.put]
  refine wpAnyH_take (i := 2) (v := (.pointer (some ⟨b, 0, none⟩))) rfl (by kernel_rfl) (by kernel_rfl) (by kernel_rfl) (fun _ _ _ h => h) (Or.inl ⟨by rfl, fun w1 hSw => by obtain ⟨q0, q1, q2, q3, q4⟩ := hSw; clear hHeld; go_simp⟩) hHeld ?_
  simp only [Act.put]
  refine wpAnyH_take (i := 3) (v := (.pointer (some ⟨b, 0, none⟩))) rfl (by kernel_rfl) (by kernel_rfl) (by kernel_rfl) (fun _ _ _ h => h) (Or.inl ⟨by rfl, fun w1 hSw => by obtain ⟨q0, q1, q2, q3, q4⟩ := hSw; clear hHeld; go_simp⟩) hHeld ?_
  simp only [Act.put]
  refine wpAnyH_take (i := 5) (v := (.pointer (some ⟨b, 0, none⟩))) rfl (by kernel_rfl) (by kernel_rfl) (by kernel_rfl) (fun _ _ _ h => h) (Or.inl ⟨by rfl, fun w1 hSw => by obtain ⟨q0, q1, q2, q3, q4⟩ := hSw; clear hHeld; go_simp⟩) hHeld ?_
  simp only [Act.put]
  refine wpAnyH_take (i := 6) (v := (.pointer (some ⟨b, 0, none⟩))) rfl (by kernel_rfl) (by kernel_rfl) (by kernel_rfl) (fun _ _ _ h => h) (Or.inl ⟨by rfl, fun w1 hSw => by obtain ⟨q0, q1, q2, q3, q4⟩ := hSw; clear hHeld; go_simp⟩) hHeld ?_
  simp only [Act.put]
  refine wpAnyH_take (i := 7) (v := (.pointer (some ⟨b, 1, none⟩))) rfl (by kernel_rfl) (by kernel_rfl) (by kernel_rfl) (fun _ _ _ h => h) (Or.inl ⟨by rfl, fun w1 hSw => by obtain ⟨q0, q1, q2, q3, q4⟩ := hSw; clear hHeld; go_simp⟩) hHeld ?_
  simp only [Act.put]
  refine wpAnyH_take (i := 8) (v := (.int .i64 (s + 1))) rfl (by kernel_rfl) (by kernel_rfl) (by kernel_rfl) (fun _ _ _ h => h) (Or.inl ⟨by rfl, fun w1 hSw => by obtain ⟨q0, q1, q2, q3, q4⟩ := hSw; clear hHeld; go_simp⟩) hHeld ?_
  simp only [Act.put]
  refine wpAnyH_take (i := 9) (v := (.agg #[.int .i64 fn, .int .i64 fl])) rfl (by kernel_rfl) (by kernel_rfl) (by kernel_rfl) (fun _ _ _ h => h) (Or.inl ⟨by rfl, fun w1 hSw => by obtain ⟨q0, q1, q2, q3, q4⟩ := hSw; clear hHeld; go_simp⟩) hHeld ?_
  simp only [Act.put]
  refine wpAnyH_take (i := 10) (v := (.agg #[.int .i64 tn, .int .i64 tl])) rfl (by kernel_rfl) (by kernel_rfl) (by kernel_rfl) (fun _ _ _ h => h) (Or.inl ⟨by rfl, fun w1 hSw => by obtain ⟨q0, q1, q2, q3, q4⟩ := hSw; clear hHeld; go_simp⟩) hHeld ?_
  simp only [Act.put]
  refine wpAnyH_take (i := 11) (v := (.string data)) rfl (by kernel_rfl) (by kernel_rfl) (by kernel_rfl) (fun _ _ _ h => h) (Or.inl ⟨by rfl, fun w1 hSw => by obtain ⟨q0, q1, q2, q3, q4⟩ := hSw; clear hHeld; go_simp⟩) hHeld ?_
  simp only [Act.put]
  refine wpAnyH_take (i := 12) (v := (.agg #[.int .i64 (s + 1), .int .i64 fn, .int .i64 fl, .int .i64 tn, .int .i64 tl, .string data])) rfl (by kernel_rfl) (by kernel_rfl) (by kernel_rfl) (fun _ _ _ h => h) (Or.inl ⟨by rfl, fun w1 hSw => by obtain ⟨q0, q1, q2, q3, q4⟩ := hSw; clear hHeld; go_simp⟩) hHeld ?_
  simp only [Act.put]
  refine wpAnyH_ready (rs := [4, 13]) (by kernel_rfl) (by simp) ?_
  refine AllReadyH.cons rfl (fun K hK => ?_) (AllReadyH.cons rfl (fun K hK => ?_) AllReadyH.nil)
  · go_simp
    refine hK.out _ _ hHeld (fun hHeld => ?_)
    try simp only [Act.put]
    clear hK K
    refine wpAnyH_ready (rs := [13]) (by kernel_rfl) (by simp) ?_
    refine AllReadyH.cons rfl (fun K hK => ?_) AllReadyH.nil
    go_simp
    refine hK.out _ _ ⟨Lib.cell?_alloc_some (W := W1.drew) _ d0, Lib.cell?_alloc_some (W := W1.drew) _ d1, Lib.cell?_alloc_some (W := W1.drew) _ d2, Lib.cell?_alloc_some (W := W1.drew) _ d3, Lib.cell?_alloc_some (W := W1.drew) _ c1⟩ (fun hHeld => ?_)
    try simp only [Act.put]
    clear hK K
    refine wpAnyH_ready (rs := [14]) (by kernel_rfl) (by simp) ?_
    refine AllReadyH.cons rfl (fun K hK => ?_) AllReadyH.nil
    refine HL.out _ _ _ _ _ _ rfl rfl rfl rfl ?_
    intro g cap' w2 hown hgrow hat x0 x6 hS2
    refine hK.out _ _ hS2 (fun hHeld => ?_)
    try simp only [Act.put]
    have HOWN := hide hown
    have HGROW := hide hgrow
    have HAT := hide hat
    clear hown hgrow hat hK K
    refine wpAnyH_take (i := 15) (v := (.pointer (some ⟨b, 0, none⟩))) rfl (by kernel_rfl) (by kernel_rfl) (by kernel_rfl) (fun _ _ _ h => h) (Or.inl ⟨by rfl, fun w1 hSw => by clear hHeld hSw; go_simp⟩) hHeld ?_
    try simp only [Act.put]
    refine wpAnyH_take (i := 16) (v := (.pointer (some ⟨b, 0, none⟩))) rfl (by kernel_rfl) (by kernel_rfl) (by kernel_rfl) (fun _ _ _ h => h) (Or.inl ⟨by rfl, fun w1 hSw => by clear hHeld hSw; go_simp⟩) hHeld ?_
    try simp only [Act.put]
    refine wpAnyH_ready (rs := [17]) (by kernel_rfl) (by simp) ?_
    refine AllReadyH.cons rfl (fun K hK => ?_) AllReadyH.nil
    go_simp
    refine hK.out _ _ ⟨(World.cell?_setCell_far _ _ _ _ hbn0).trans hS2.1, (World.cell?_setCell_far _ _ _ _ hbn0).trans hS2.2.1, (World.cell?_setCell_far _ _ _ _ hbn1).trans hS2.2.2.1, (World.cell?_setCell_far _ _ _ _ hbn1).trans hS2.2.2.2.1, (World.cell?_setCell_other _ _ _ _ (by simp)).trans hS2.2.2.2.2⟩ (fun hHeld => ?_)
    refine wpAnyH_done (by kernel_rfl) ?_ _
    have c1e := hHeld.2.2.2.2
    clear hHeld hK K hS2
    go_wp2
    go_ret
    exact ⟨rfl, _, bag_appended (d := ⟨s + 1, fn, fl, tn, tl, data⟩) H.out.low HB1'.out HM1.out SZ.out HOWN.out HGROW.out HAT.out⟩
  · go_simp
    refine hK.out _ _ ⟨Lib.cell?_alloc_some (W := W1.drew) _ d0, Lib.cell?_alloc_some (W := W1.drew) _ d1, Lib.cell?_alloc_some (W := W1.drew) _ d2, Lib.cell?_alloc_some (W := W1.drew) _ d3, Lib.cell?_alloc_some (W := W1.drew) _ c1⟩ (fun hHeld => ?_)
    try simp only [Act.put]
    clear hK K
    refine wpAnyH_ready (rs := [4]) (by kernel_rfl) (by simp) ?_
    refine AllReadyH.cons rfl (fun K hK => ?_) AllReadyH.nil
    go_simp
    refine hK.out _ _ hHeld (fun hHeld => ?_)
    try simp only [Act.put]
    clear hK K
    refine wpAnyH_ready (rs := [14]) (by kernel_rfl) (by simp) ?_
    refine AllReadyH.cons rfl (fun K hK => ?_) AllReadyH.nil
    refine HL.out _ _ _ _ _ _ rfl rfl rfl rfl ?_
    intro g cap' w2 hown hgrow hat x0 x6 hS2
    refine hK.out _ _ hS2 (fun hHeld => ?_)
    try simp only [Act.put]
    have HOWN := hide hown
    have HGROW := hide hgrow
    have HAT := hide hat
    clear hown hgrow hat hK K
    refine wpAnyH_take (i := 15) (v := (.pointer (some ⟨b, 0, none⟩))) rfl (by kernel_rfl) (by kernel_rfl) (by kernel_rfl) (fun _ _ _ h => h) (Or.inl ⟨by rfl, fun w1 hSw => by clear hHeld hSw; go_simp⟩) hHeld ?_
    try simp only [Act.put]
    refine wpAnyH_take (i := 16) (v := (.pointer (some ⟨b, 0, none⟩))) rfl (by kernel_rfl) (by kernel_rfl) (by kernel_rfl) (fun _ _ _ h => h) (Or.inl ⟨by rfl, fun w1 hSw => by clear hHeld hSw; go_simp⟩) hHeld ?_
    try simp only [Act.put]
    refine wpAnyH_ready (rs := [17]) (by kernel_rfl) (by simp) ?_
    refine AllReadyH.cons rfl (fun K hK => ?_) AllReadyH.nil
    go_simp
    refine hK.out _ _ ⟨(World.cell?_setCell_far _ _ _ _ hbn0).trans hS2.1, (World.cell?_setCell_far _ _ _ _ hbn0).trans hS2.2.1, (World.cell?_setCell_far _ _ _ _ hbn1).trans hS2.2.2.1, (World.cell?_setCell_far _ _ _ _ hbn1).trans hS2.2.2.2.1, (World.cell?_setCell_other _ _ _ _ (by simp)).trans hS2.2.2.2.2⟩ (fun hHeld => ?_)
    refine wpAnyH_done (by kernel_rfl) ?_ _
    have c1e := hHeld.2.2.2.2
    clear hHeld hK K hS2
    go_wp2
    go_ret
    exact ⟨rfl, _, bag_appended (d := ⟨s + 1, fn, fl, tn, tl, data⟩) H.out.low HB1'.out HM1.out SZ.out HOWN.out HGROW.out HAT.out⟩

set_option maxHeartbeats 1000000 in
theorem rdup_any {base : Nat} {w : World} {b : Nat} {v : Value} {l : List Dg} {s p : Int} (h : Bag 30 base w b v l s) (hs0 : 0 ≤ s) (hs : s < 9223372036854775807) (hl : (l.length + 1) * 56 ≤ 140737488355328) :
    Calls Try.prog 26 #[.pointer (some ⟨b, 0, none⟩), .int .i64 p] w fun e w' =>
      e = .returned (.tuple #[.int .i64 (if atE l p = 0 then s + 1 else 0), .int .i64 (atE l p)]) ∧ ∃ v', Bag 30 base w' b v' (if atE l p = 0 then l ++ [{ atD l p with num := s + 1 }] else l) (if atE l p = 0 then s + 1 else s) ∧ Mv (Ft b v) (Ft b v') w w' := by
  have hA := hide (rat_any (p := p) h)
  by_cases hp : atE l p = 0
  · simp only [if_pos hp]
    rw [hp] at hA ⊢
    generalize atD l p = d at *
    have H := hide h
    clear h hp
    go_enter Try.func26, Try.ntmps26
    go_wp2_with fail
    refine hA.out.mono ?_
    rintro e w1 ⟨rfl, hb1⟩
    have HB1 := hide (H.out.below hb1)
    have HM1 := hide (Mv.of_below (F := Ft b v) hb1)
    clear hA hb1
    go_wp2_with fail
    refine (rsend_any (HB1.out.alloc _) d.fn d.fl d.tn d.tl d.data hs0 hs hl).mono ?_
    rintro e w2 ⟨rfl, v', hB2, hM2⟩
    have HB2 := hide hB2
    have HM2 := hide (HM1.out.trans ((Mv.of_below ((Below.refl _ w1).alloc (Nat.le_refl _) _)).trans hM2))
    clear hB2 hM2
    go_wp2
    go_ret2
    exact ⟨rfl, v', HB2.out, HM2.out⟩
  · simp only [if_neg hp]
    have hq : (atE l p == 0) = false := by rw [beq_eq_false_iff_ne]; exact hp
    generalize atD l p = d at *
    generalize atE l p = x at *
    have H := hide h
    clear h hp
    go_enter Try.func26, Try.ntmps26
    go_wp2_with fail
    refine hA.out.mono ?_
    rintro e w1 ⟨rfl, hb1⟩
    have HB1 := hide (H.out.below hb1)
    have HM1 := hide (Mv.of_below (F := Ft b v) hb1)
    clear hA hb1
    go_wp2
    go_ret2
    exact ⟨rfl, v, HB1.out.alloc _, HM1.out.trans (Mv.of_below ((Below.refl _ _).alloc (Nat.le_refl _) _))⟩
end Go.Proofs.Ytnbmgddkaclneaa
