import Derived.Test.YtjfgmdiafhkbgaaAuP
namespace Go.Proofs.Ytjfgmdiafhkbgaa
open Go.RowKit Go.MapKept
set_option maxRecDepth 8000

section
variable {w w' : World} {B b : Nat} {h : Hs} {s : Hi} {i : Nat}
/-- what is known behind a showing -/
def shw (h : Hs) (i : Nat) (j : Jb) : Hs := { (if (knw h i || nxt h i) = true then { lt_ h i j with top := max h.top j.ba } else h) with up := (i : Int) + 1 }
set_option maxHeartbeats 8000000 in
theorem shown_any (H : Hm w B b h s) (hi8 : i < 8) (ek eo en el : Int) (eb ei ec es er ew : Int) (ex : ByteArray) {et : List ByteArray} {q : Option Addr} {cq : Nat} (hv : Tx w (.slice q et.length cq) et) (he : et.length ≤ 1048576) :
    Calls Try.prog 48 #[.pointer (some ⟨b, 0, none⟩), .agg #[.int .i64 ek, .int .i64 eo, .int .i64 en, .int .i64 el, .int .i64 ((i : Int) + 1), .int .i64 eb, .int .i64 ei, .int .i64 ec, .int .i64 es, .int .i64 er, .int .u64 ew, .string ex, .slice q et.length cq]] w fun r w' => r = .returned (.tuple #[]) ∧ (∃ s', Hm w' B b (shw h i ⟨es, eb, er, ew, et⟩) s') ∧ Kt B w w' := by
  have hBa := below_alloc w (.cells #[.int .i64 ek, .int .i64 eo, .int .i64 en, .int .i64 el, .int .i64 ((i : Int) + 1), .int .i64 eb, .int .i64 ei, .int .i64 ec, .int .i64 es, .int .i64 er, .int .u64 ew, .string ex, .slice q et.length cq] 43)
  have hbk := heap_alloc_new w (.cells #[.int .i64 ek, .int .i64 eo, .int .i64 en, .int .i64 el, .int .i64 ((i : Int) + 1), .int .i64 eb, .int .i64 ei, .int .i64 ec, .int .i64 es, .int .i64 er, .int .u64 ew, .string ex, .slice q et.length cq] 43)
  have H1 := H.below hBa
  have H0 := hide H
  have HH1 := hide H1
  have HBa := hide hBa
  have HBK := hide hbk
  have l8 := H.l8
  have i8 : (i : Int) < 8 := by omega
  have HN := hide (known_any H1 i)
  have HV := hide hv
  have HBL : Hid (¬ (b = w.heap.size)) := hide (by have := H.lt; omega)
  unfold shw
  clear H H1 hBa hbk hv
  cases hk : knw h i with
  | true =>
    rw [hk] at HN
    rw [Bool.true_or, if_pos rfl]
    dsimp only
    have HE : Hid (i ≤ h.jobs.length) := hide (by have : i < h.jobs.length := (by simpa [knw] using hk); omega)
    have HI8 := hide hi8
    clear hk
    go_enter Try.func48, Try.ntmps48
    go_wp2_with fail
    refine HN.out.mono ?_
    rintro e w1 ⟨rfl, hb⟩
    have HB1 := hide hb
    have H2 := HH1.out.below hb
    have HH2 := hide H2
    have HK1 := hide (Kt.of_below (B := B) (below_of HBa.out hb))
    have ce := (hb.block _ (lt_of_block HBK.out)).trans HBK.out
    have x4 : w1.cell? ⟨w.heap.size, 4, none⟩ = some (.int .i64 ((i : Int) + 1)) := by simp [World.cell?, ce]
    have HW0 := hide (H2.below (Below.refl w1.heap.size w1).drew)
    have HCl := hide (s_clone ((HV.out.below (below_of HBa.out HB1.out)).below (Below.refl w1.heap.size w1).drew) he)
    have HS0 : Hid ((fun V => V.heap[w.heap.size]? = some (.cells #[.int .i64 ek, .int .i64 eo, .int .i64 en, .int .i64 el, .int .i64 ((i : Int) + 1), .int .i64 eb, .int .i64 ei, .int .i64 ec, .int .i64 es, .int .i64 er, .int .u64 ew, .string ex, .slice q et.length cq] 43 (0, 0))) (w1.drew)) := hide ce
    have HK2 := hide (HK1.out.below (Below.refl w1.heap.size w1).drew)
    have HBB : Hid (B ≤ (w1.drew).heap.size) := hide (Nat.le_of_lt (Nat.lt_of_le_of_lt H2.lo.1 H2.lt))
    clear hb H2 ce
    have HCe : Hid (∀ w' : World, (fun V => V.heap[w.heap.size]? = some (.cells #[.int .i64 ek, .int .i64 eo, .int .i64 en, .int .i64 el, .int .i64 ((i : Int) + 1), .int .i64 eb, .int .i64 ei, .int .i64 ec, .int .i64 es, .int .i64 er, .int .u64 ew, .string ex, .slice q et.length cq] 43 (0, 0))) w' → w'.cell? ⟨w.heap.size, 0, none⟩ = some (.int .i64 ek) ∧ w'.cell? ⟨w.heap.size, 1, none⟩ = some (.int .i64 eo) ∧ w'.cell? ⟨w.heap.size, 2, none⟩ = some (.int .i64 en) ∧ w'.cell? ⟨w.heap.size, 3, none⟩ = some (.int .i64 el) ∧ w'.cell? ⟨w.heap.size, 4, none⟩ = some (.int .i64 ((i : Int) + 1)) ∧ w'.cell? ⟨w.heap.size, 5, none⟩ = some (.int .i64 eb) ∧ w'.cell? ⟨w.heap.size, 6, none⟩ = some (.int .i64 ei) ∧ w'.cell? ⟨w.heap.size, 7, none⟩ = some (.int .i64 ec) ∧ w'.cell? ⟨w.heap.size, 8, none⟩ = some (.int .i64 es) ∧ w'.cell? ⟨w.heap.size, 9, none⟩ = some (.int .i64 er) ∧ w'.cell? ⟨w.heap.size, 10, none⟩ = some (.int .u64 ew) ∧ w'.cell? ⟨w.heap.size, 11, none⟩ = some (.string ex) ∧ w'.cell? ⟨w.heap.size, 12, none⟩ = some (.slice q et.length cq)) := hide fun w' hw => ⟨by simp [World.cell?, hw], by simp [World.cell?, hw], by simp [World.cell?, hw], by simp [World.cell?, hw], by simp [World.cell?, hw], by simp [World.cell?, hw], by simp [World.cell?, hw], by simp [World.cell?, hw], by simp [World.cell?, hw], by simp [World.cell?, hw], by simp [World.cell?, hw], by simp [World.cell?, hw], by simp [World.cell?, hw]⟩
    go_wp2_with fail
    refine wp_region_held_drew (S := fun V => V.heap[w.heap.size]? = some (.cells #[.int .i64 ek, .int .i64 eo, .int .i64 en, .int .i64 el, .int .i64 ((i : Int) + 1), .int .i64 eb, .int .i64 ei, .int .i64 ec, .int .i64 es, .int .i64 er, .int .u64 ew, .string ex, .slice q et.length cq] 43 (0, 0))) (by kernel_rfl) (HS0.out) (fun hHeld => ?_)
    refine wpAnyH_take (i := 0) (v := .pointer (some ⟨b, 0, none⟩)) rfl (by kernel_rfl) (by kernel_rfl) (by kernel_rfl) (fun _ _ _ h => h) (Or.inl ⟨by kernel_rfl, fun w1 hSw => by clear hHeld; obtain ⟨f0, f1, f2, f3, f4, f5, f6, f7, f8, f9, f10, f11, f12⟩ := HCe.out _ hSw; go_simp⟩) hHeld ?_
    try simp only [Act.put]
    try simp only [List.getElem_toArray]
    try simp only [List.getElem_cons_succ]
    try simp only [List.getElem_cons_zero]
    try simp only [List.setIfInBounds_toArray]
    try simp only [List.set_cons_succ, List.set_cons_zero]
    refine wpAnyH_take (i := 1) (v := .pointer (some ⟨w.heap.size, 4, none⟩)) rfl (by kernel_rfl) (by kernel_rfl) (by kernel_rfl) (fun _ _ _ h => h) (Or.inl ⟨by kernel_rfl, fun w1 hSw => by clear hHeld; obtain ⟨f0, f1, f2, f3, f4, f5, f6, f7, f8, f9, f10, f11, f12⟩ := HCe.out _ hSw; go_simp⟩) hHeld ?_
    try simp only [Act.put]
    try simp only [List.getElem_toArray]
    try simp only [List.getElem_cons_succ]
    try simp only [List.getElem_cons_zero]
    try simp only [List.setIfInBounds_toArray]
    try simp only [List.set_cons_succ, List.set_cons_zero]
    refine wpAnyH_take (i := 2) (v := .int .i64 ((i : Int) + 1)) rfl (by kernel_rfl) (by kernel_rfl) (by kernel_rfl) (fun _ _ _ h => h) (Or.inl ⟨by kernel_rfl, fun w1 hSw => by clear hHeld; obtain ⟨f0, f1, f2, f3, f4, f5, f6, f7, f8, f9, f10, f11, f12⟩ := HCe.out _ hSw; go_simp⟩) hHeld ?_
    try simp only [Act.put]
    try simp only [List.getElem_toArray]
    try simp only [List.getElem_cons_succ]
    try simp only [List.getElem_cons_zero]
    try simp only [List.setIfInBounds_toArray]
    try simp only [List.set_cons_succ, List.set_cons_zero]
    refine wpAnyH_take (i := 3) (v := .pointer (some ⟨w.heap.size, 8, none⟩)) rfl (by kernel_rfl) (by kernel_rfl) (by kernel_rfl) (fun _ _ _ h => h) (Or.inl ⟨by kernel_rfl, fun w1 hSw => by clear hHeld; obtain ⟨f0, f1, f2, f3, f4, f5, f6, f7, f8, f9, f10, f11, f12⟩ := HCe.out _ hSw; go_simp⟩) hHeld ?_
    try simp only [Act.put]
    try simp only [List.getElem_toArray]
    try simp only [List.getElem_cons_succ]
    try simp only [List.getElem_cons_zero]
    try simp only [List.setIfInBounds_toArray]
    try simp only [List.set_cons_succ, List.set_cons_zero]
    refine wpAnyH_take (i := 4) (v := .int .i64 es) rfl (by kernel_rfl) (by kernel_rfl) (by kernel_rfl) (fun _ _ _ h => h) (Or.inl ⟨by kernel_rfl, fun w1 hSw => by clear hHeld; obtain ⟨f0, f1, f2, f3, f4, f5, f6, f7, f8, f9, f10, f11, f12⟩ := HCe.out _ hSw; go_simp⟩) hHeld ?_
    try simp only [Act.put]
    try simp only [List.getElem_toArray]
    try simp only [List.getElem_cons_succ]
    try simp only [List.getElem_cons_zero]
    try simp only [List.setIfInBounds_toArray]
    try simp only [List.set_cons_succ, List.set_cons_zero]
    refine wpAnyH_take (i := 5) (v := .pointer (some ⟨w.heap.size, 5, none⟩)) rfl (by kernel_rfl) (by kernel_rfl) (by kernel_rfl) (fun _ _ _ h => h) (Or.inl ⟨by kernel_rfl, fun w1 hSw => by clear hHeld; obtain ⟨f0, f1, f2, f3, f4, f5, f6, f7, f8, f9, f10, f11, f12⟩ := HCe.out _ hSw; go_simp⟩) hHeld ?_
    try simp only [Act.put]
    try simp only [List.getElem_toArray]
    try simp only [List.getElem_cons_succ]
    try simp only [List.getElem_cons_zero]
    try simp only [List.setIfInBounds_toArray]
    try simp only [List.set_cons_succ, List.set_cons_zero]
    refine wpAnyH_take (i := 6) (v := .int .i64 eb) rfl (by kernel_rfl) (by kernel_rfl) (by kernel_rfl) (fun _ _ _ h => h) (Or.inl ⟨by kernel_rfl, fun w1 hSw => by clear hHeld; obtain ⟨f0, f1, f2, f3, f4, f5, f6, f7, f8, f9, f10, f11, f12⟩ := HCe.out _ hSw; go_simp⟩) hHeld ?_
    try simp only [Act.put]
    try simp only [List.getElem_toArray]
    try simp only [List.getElem_cons_succ]
    try simp only [List.getElem_cons_zero]
    try simp only [List.setIfInBounds_toArray]
    try simp only [List.set_cons_succ, List.set_cons_zero]
    refine wpAnyH_take (i := 7) (v := .pointer (some ⟨w.heap.size, 9, none⟩)) rfl (by kernel_rfl) (by kernel_rfl) (by kernel_rfl) (fun _ _ _ h => h) (Or.inl ⟨by kernel_rfl, fun w1 hSw => by clear hHeld; obtain ⟨f0, f1, f2, f3, f4, f5, f6, f7, f8, f9, f10, f11, f12⟩ := HCe.out _ hSw; go_simp⟩) hHeld ?_
    try simp only [Act.put]
    try simp only [List.getElem_toArray]
    try simp only [List.getElem_cons_succ]
    try simp only [List.getElem_cons_zero]
    try simp only [List.setIfInBounds_toArray]
    try simp only [List.set_cons_succ, List.set_cons_zero]
    refine wpAnyH_take (i := 8) (v := .agg #[.int .i64 er, .int .u64 ew]) rfl (by kernel_rfl) (by kernel_rfl) (by kernel_rfl) (fun _ _ _ h => h) (Or.inl ⟨by kernel_rfl, fun w1 hSw => by clear hHeld; obtain ⟨f0, f1, f2, f3, f4, f5, f6, f7, f8, f9, f10, f11, f12⟩ := HCe.out _ hSw; go_simp⟩) hHeld ?_
    try simp only [Act.put]
    try simp only [List.getElem_toArray]
    try simp only [List.getElem_cons_succ]
    try simp only [List.getElem_cons_zero]
    try simp only [List.setIfInBounds_toArray]
    try simp only [List.set_cons_succ, List.set_cons_zero]
    refine wpAnyH_take (i := 9) (v := .pointer (some ⟨w.heap.size, 12, none⟩)) rfl (by kernel_rfl) (by kernel_rfl) (by kernel_rfl) (fun _ _ _ h => h) (Or.inl ⟨by kernel_rfl, fun w1 hSw => by clear hHeld; obtain ⟨f0, f1, f2, f3, f4, f5, f6, f7, f8, f9, f10, f11, f12⟩ := HCe.out _ hSw; go_simp⟩) hHeld ?_
    try simp only [Act.put]
    try simp only [List.getElem_toArray]
    try simp only [List.getElem_cons_succ]
    try simp only [List.getElem_cons_zero]
    try simp only [List.setIfInBounds_toArray]
    try simp only [List.set_cons_succ, List.set_cons_zero]
    refine wpAnyH_take (i := 10) (v := .slice q et.length cq) rfl (by kernel_rfl) (by kernel_rfl) (by kernel_rfl) (fun _ _ _ h => h) (Or.inl ⟨by kernel_rfl, fun w1 hSw => by clear hHeld; obtain ⟨f0, f1, f2, f3, f4, f5, f6, f7, f8, f9, f10, f11, f12⟩ := HCe.out _ hSw; go_simp⟩) hHeld ?_
    try simp only [Act.put]
    try simp only [List.getElem_toArray]
    try simp only [List.getElem_cons_succ]
    try simp only [List.getElem_cons_zero]
    try simp only [List.setIfInBounds_toArray]
    try simp only [List.set_cons_succ, List.set_cons_zero]
    refine wpAnyH_ready (rs := [11]) (by kernel_rfl) (by simp) ?_
    refine AllReadyH.cons rfl (fun K hK => ?_) AllReadyH.nil
    go_simp
    refine HCl.out.mono ?_
    rintro e V1 ⟨t1, rfl, hown, hb⟩
    obtain ⟨ta, tc, ht1⟩ := own_slice hown
    subst ht1
    have HOw := hide hown
    have HVb := hide hb
    have HS1 : Hid ((fun V => V.heap[w.heap.size]? = some (.cells #[.int .i64 ek, .int .i64 eo, .int .i64 en, .int .i64 el, .int .i64 ((i : Int) + 1), .int .i64 eb, .int .i64 ei, .int .i64 ec, .int .i64 es, .int .i64 er, .int .u64 ew, .string ex, .slice q et.length cq] 43 (0, 0))) V1) := hide ((hb.block _ (lt_of_block hHeld)).trans hHeld)
    have HL := hide (let_any ((HW0.out).below hb) HE.out HI8.out ⟨es, eb, er, ew, et⟩ (.slice ta et.length tc) (own_base hown HBB.out) (fun x hx k e1 e2 => by have h5 := (HW0.out.logs x hx).lt k e2; have h6 := own_lo hown k e1; omega))
    clear hown hb
    refine hK.out _ _ (HS1.out) (fun hHeld => ?_)
    clear hK K
    try simp only [Act.put]
    try simp only [List.getElem_toArray]
    try simp only [List.getElem_cons_succ]
    try simp only [List.getElem_cons_zero]
    try simp only [List.setIfInBounds_toArray]
    try simp only [List.set_cons_succ, List.set_cons_zero]
    refine wpAnyH_take (i := 12) (v := .agg #[.int .i64 es, .int .i64 eb, .int .i64 er, .int .u64 ew, .slice ta et.length tc]) rfl (by kernel_rfl) (by kernel_rfl) (by kernel_rfl) (fun _ _ _ h => h) (Or.inl ⟨by kernel_rfl, fun w1 hSw => by clear hHeld; obtain ⟨f0, f1, f2, f3, f4, f5, f6, f7, f8, f9, f10, f11, f12⟩ := HCe.out _ hSw; go_simp⟩) hHeld ?_
    try simp only [Act.put]
    try simp only [List.getElem_toArray]
    try simp only [List.getElem_cons_succ]
    try simp only [List.getElem_cons_zero]
    try simp only [List.setIfInBounds_toArray]
    try simp only [List.set_cons_succ, List.set_cons_zero]
    refine wpAnyH_ready (rs := [13]) (by kernel_rfl) (by simp) ?_
    refine AllReadyH.cons rfl (fun K hK => ?_) AllReadyH.nil
    go_simp
    refine HL.out.mono ?_
    rintro e V2 ⟨rfl, ⟨s2, h3⟩, h4⟩
    have H3 := hide h3
    have H4 := hide h4
    have HS2 : Hid ((fun V => V.heap[w.heap.size]? = some (.cells #[.int .i64 ek, .int .i64 eo, .int .i64 en, .int .i64 el, .int .i64 ((i : Int) + 1), .int .i64 eb, .int .i64 ei, .int .i64 ec, .int .i64 es, .int .i64 er, .int .u64 ew, .string ex, .slice q et.length cq] 43 (0, 0))) V2) := hide (box_kt h4 hHeld)
    clear h3 h4
    refine hK.out _ _ (HS2.out) (fun hHeld => ?_)
    clear hK K
    try simp only [Act.put]
    try simp only [List.getElem_toArray]
    try simp only [List.getElem_cons_succ]
    try simp only [List.getElem_cons_zero]
    try simp only [List.setIfInBounds_toArray]
    try simp only [List.set_cons_succ, List.set_cons_zero]
    refine wpAnyH_done (by kernel_rfl) ?_ _
    have ce := HS2.out
    have h3 := H3.out
    have c1 := h3.cell 1 (by decide)
    dsimp only [hc, lt_] at c1
    have z1 := h3.z 1
    have x4 : V2.cell? ⟨w.heap.size, 4, none⟩ = some (.int .i64 ((i : Int) + 1)) := by simp [World.cell?, ce]
    have x5 : V2.cell? ⟨w.heap.size, 5, none⟩ = some (.int .i64 eb) := by simp [World.cell?, ce]
    have z25 := h3.z 25
    have c25 := h3.cell 25 (by decide)
    dsimp only [hc, lt_] at c25
    have hbV : b < V2.heap.size := h3.lt
    have hb0 : ¬ (b = w.heap.size) := HBL.out
    have hb1 : ¬ (w.heap.size = b) := fun e => HBL.out e.symm
    have HW : Hid (∀ v, v = max h.top eb → Hm ((V2.drew.setCell ⟨b, 1, none⟩ (.int .i64 v)).setCell ⟨b, 25, none⟩ (.int .i64 ((i : Int) + 1))) B b { lt_ h i ⟨es, eb, er, ew, et⟩ with top := max h.top eb, up := (i : Int) + 1 } s2 ∧ Kt B V2.drew ((V2.drew.setCell ⟨b, 1, none⟩ (.int .i64 v)).setCell ⟨b, 25, none⟩ (.int .i64 ((i : Int) + 1)))) := hide fun v e => by
      rw [e]
      have ha := (h3.below (Below.refl V2.heap.size V2).drew).setTop (max h.top eb)
      have hb := ha.1.setUp ((i : Int) + 1)
      exact ⟨hb.1, ha.2.trans hb.2⟩
    clear h3 ce
    go_wp2_with fail
    go_region
    all_goals go_wp2_with fail
    all_goals go_end0
    all_goals exact ⟨rfl, ⟨_, (HW.out _ (by omega)).1⟩, (((HK2.out.below HVb.out).trans H4.out).below (below_drewN (Below.refl _ _) 1)).trans (HW.out _ (by omega)).2⟩
  | false =>
    rw [hk] at HN
    rw [Bool.false_or]
    clear hk
    cases hn : nxt h i with
    | true =>
      rw [if_pos rfl]
      dsimp only
      have HE : Hid (i ≤ h.jobs.length) := hide (by have : i = h.jobs.length := (by simpa [nxt] using hn); omega)
      have HI8 := hide hi8
      go_enter Try.func48, Try.ntmps48
      go_wp2_with fail
      refine HN.out.mono ?_
      rintro e w1 ⟨rfl, hb⟩
      have HB1 := hide hb
      have H2 := HH1.out.below hb
      have HH2 := hide H2
      have HK1 := hide (Kt.of_below (B := B) (below_of HBa.out hb))
      have ce := (hb.block _ (lt_of_block HBK.out)).trans HBK.out
      have x4 : w1.cell? ⟨w.heap.size, 4, none⟩ = some (.int .i64 ((i : Int) + 1)) := by simp [World.cell?, ce]
      have HN2 := hide (isNext_any H2 i)
      rw [hn] at HN2
      have HCE := hide ce
      clear hb H2 ce hn
      go_wp2_with fail
      refine HN2.out.mono ?_
      rintro e w2 ⟨rfl, hb2⟩
      have HB2 := hide (below_of HB1.out hb2)
      have H2 := HH2.out.below hb2
      have HKb := hide (HK1.out.below hb2)
      have ce := (hb2.block _ (lt_of_block HCE.out)).trans HCE.out
      have x4 : w2.cell? ⟨w.heap.size, 4, none⟩ = some (.int .i64 ((i : Int) + 1)) := by simp [World.cell?, ce]
      have HW0 := hide (H2.below (Below.refl w2.heap.size w2).drew)
      have HCl := hide (s_clone ((HV.out.below (below_of HBa.out HB2.out)).below (Below.refl w2.heap.size w2).drew) he)
      have HS0 : Hid ((fun V => V.heap[w.heap.size]? = some (.cells #[.int .i64 ek, .int .i64 eo, .int .i64 en, .int .i64 el, .int .i64 ((i : Int) + 1), .int .i64 eb, .int .i64 ei, .int .i64 ec, .int .i64 es, .int .i64 er, .int .u64 ew, .string ex, .slice q et.length cq] 43 (0, 0))) (w2.drew)) := hide ce
      have HK2 := hide (HKb.out.below (Below.refl w2.heap.size w2).drew)
      have HBB : Hid (B ≤ (w2.drew).heap.size) := hide (Nat.le_of_lt (Nat.lt_of_le_of_lt H2.lo.1 H2.lt))
      clear hb2 H2 ce
      have HCe : Hid (∀ w' : World, (fun V => V.heap[w.heap.size]? = some (.cells #[.int .i64 ek, .int .i64 eo, .int .i64 en, .int .i64 el, .int .i64 ((i : Int) + 1), .int .i64 eb, .int .i64 ei, .int .i64 ec, .int .i64 es, .int .i64 er, .int .u64 ew, .string ex, .slice q et.length cq] 43 (0, 0))) w' → w'.cell? ⟨w.heap.size, 0, none⟩ = some (.int .i64 ek) ∧ w'.cell? ⟨w.heap.size, 1, none⟩ = some (.int .i64 eo) ∧ w'.cell? ⟨w.heap.size, 2, none⟩ = some (.int .i64 en) ∧ w'.cell? ⟨w.heap.size, 3, none⟩ = some (.int .i64 el) ∧ w'.cell? ⟨w.heap.size, 4, none⟩ = some (.int .i64 ((i : Int) + 1)) ∧ w'.cell? ⟨w.heap.size, 5, none⟩ = some (.int .i64 eb) ∧ w'.cell? ⟨w.heap.size, 6, none⟩ = some (.int .i64 ei) ∧ w'.cell? ⟨w.heap.size, 7, none⟩ = some (.int .i64 ec) ∧ w'.cell? ⟨w.heap.size, 8, none⟩ = some (.int .i64 es) ∧ w'.cell? ⟨w.heap.size, 9, none⟩ = some (.int .i64 er) ∧ w'.cell? ⟨w.heap.size, 10, none⟩ = some (.int .u64 ew) ∧ w'.cell? ⟨w.heap.size, 11, none⟩ = some (.string ex) ∧ w'.cell? ⟨w.heap.size, 12, none⟩ = some (.slice q et.length cq)) := hide fun w' hw => ⟨by simp [World.cell?, hw], by simp [World.cell?, hw], by simp [World.cell?, hw], by simp [World.cell?, hw], by simp [World.cell?, hw], by simp [World.cell?, hw], by simp [World.cell?, hw], by simp [World.cell?, hw], by simp [World.cell?, hw], by simp [World.cell?, hw], by simp [World.cell?, hw], by simp [World.cell?, hw], by simp [World.cell?, hw]⟩
      go_wp2_with fail
      refine wp_region_held_drew (S := fun V => V.heap[w.heap.size]? = some (.cells #[.int .i64 ek, .int .i64 eo, .int .i64 en, .int .i64 el, .int .i64 ((i : Int) + 1), .int .i64 eb, .int .i64 ei, .int .i64 ec, .int .i64 es, .int .i64 er, .int .u64 ew, .string ex, .slice q et.length cq] 43 (0, 0))) (by kernel_rfl) (HS0.out) (fun hHeld => ?_)
      refine wpAnyH_take (i := 0) (v := .pointer (some ⟨b, 0, none⟩)) rfl (by kernel_rfl) (by kernel_rfl) (by kernel_rfl) (fun _ _ _ h => h) (Or.inl ⟨by kernel_rfl, fun w1 hSw => by clear hHeld; obtain ⟨f0, f1, f2, f3, f4, f5, f6, f7, f8, f9, f10, f11, f12⟩ := HCe.out _ hSw; go_simp⟩) hHeld ?_
      try simp only [Act.put]
      try simp only [List.getElem_toArray]
      try simp only [List.getElem_cons_succ]
      try simp only [List.getElem_cons_zero]
      try simp only [List.setIfInBounds_toArray]
      try simp only [List.set_cons_succ, List.set_cons_zero]
      refine wpAnyH_take (i := 1) (v := .pointer (some ⟨w.heap.size, 4, none⟩)) rfl (by kernel_rfl) (by kernel_rfl) (by kernel_rfl) (fun _ _ _ h => h) (Or.inl ⟨by kernel_rfl, fun w1 hSw => by clear hHeld; obtain ⟨f0, f1, f2, f3, f4, f5, f6, f7, f8, f9, f10, f11, f12⟩ := HCe.out _ hSw; go_simp⟩) hHeld ?_
      try simp only [Act.put]
      try simp only [List.getElem_toArray]
      try simp only [List.getElem_cons_succ]
      try simp only [List.getElem_cons_zero]
      try simp only [List.setIfInBounds_toArray]
      try simp only [List.set_cons_succ, List.set_cons_zero]
      refine wpAnyH_take (i := 2) (v := .int .i64 ((i : Int) + 1)) rfl (by kernel_rfl) (by kernel_rfl) (by kernel_rfl) (fun _ _ _ h => h) (Or.inl ⟨by kernel_rfl, fun w1 hSw => by clear hHeld; obtain ⟨f0, f1, f2, f3, f4, f5, f6, f7, f8, f9, f10, f11, f12⟩ := HCe.out _ hSw; go_simp⟩) hHeld ?_
      try simp only [Act.put]
      try simp only [List.getElem_toArray]
      try simp only [List.getElem_cons_succ]
      try simp only [List.getElem_cons_zero]
      try simp only [List.setIfInBounds_toArray]
      try simp only [List.set_cons_succ, List.set_cons_zero]
      refine wpAnyH_take (i := 3) (v := .pointer (some ⟨w.heap.size, 8, none⟩)) rfl (by kernel_rfl) (by kernel_rfl) (by kernel_rfl) (fun _ _ _ h => h) (Or.inl ⟨by kernel_rfl, fun w1 hSw => by clear hHeld; obtain ⟨f0, f1, f2, f3, f4, f5, f6, f7, f8, f9, f10, f11, f12⟩ := HCe.out _ hSw; go_simp⟩) hHeld ?_
      try simp only [Act.put]
      try simp only [List.getElem_toArray]
      try simp only [List.getElem_cons_succ]
      try simp only [List.getElem_cons_zero]
      try simp only [List.setIfInBounds_toArray]
      try simp only [List.set_cons_succ, List.set_cons_zero]
      refine wpAnyH_take (i := 4) (v := .int .i64 es) rfl (by kernel_rfl) (by kernel_rfl) (by kernel_rfl) (fun _ _ _ h => h) (Or.inl ⟨by kernel_rfl, fun w1 hSw => by clear hHeld; obtain ⟨f0, f1, f2, f3, f4, f5, f6, f7, f8, f9, f10, f11, f12⟩ := HCe.out _ hSw; go_simp⟩) hHeld ?_
      try simp only [Act.put]
      try simp only [List.getElem_toArray]
      try simp only [List.getElem_cons_succ]
      try simp only [List.getElem_cons_zero]
      try simp only [List.setIfInBounds_toArray]
      try simp only [List.set_cons_succ, List.set_cons_zero]
      refine wpAnyH_take (i := 5) (v := .pointer (some ⟨w.heap.size, 5, none⟩)) rfl (by kernel_rfl) (by kernel_rfl) (by kernel_rfl) (fun _ _ _ h => h) (Or.inl ⟨by kernel_rfl, fun w1 hSw => by clear hHeld; obtain ⟨f0, f1, f2, f3, f4, f5, f6, f7, f8, f9, f10, f11, f12⟩ := HCe.out _ hSw; go_simp⟩) hHeld ?_
      try simp only [Act.put]
      try simp only [List.getElem_toArray]
      try simp only [List.getElem_cons_succ]
      try simp only [List.getElem_cons_zero]
      try simp only [List.setIfInBounds_toArray]
      try simp only [List.set_cons_succ, List.set_cons_zero]
      refine wpAnyH_take (i := 6) (v := .int .i64 eb) rfl (by kernel_rfl) (by kernel_rfl) (by kernel_rfl) (fun _ _ _ h => h) (Or.inl ⟨by kernel_rfl, fun w1 hSw => by clear hHeld; obtain ⟨f0, f1, f2, f3, f4, f5, f6, f7, f8, f9, f10, f11, f12⟩ := HCe.out _ hSw; go_simp⟩) hHeld ?_
      try simp only [Act.put]
      try simp only [List.getElem_toArray]
      try simp only [List.getElem_cons_succ]
      try simp only [List.getElem_cons_zero]
      try simp only [List.setIfInBounds_toArray]
      try simp only [List.set_cons_succ, List.set_cons_zero]
      refine wpAnyH_take (i := 7) (v := .pointer (some ⟨w.heap.size, 9, none⟩)) rfl (by kernel_rfl) (by kernel_rfl) (by kernel_rfl) (fun _ _ _ h => h) (Or.inl ⟨by kernel_rfl, fun w1 hSw => by clear hHeld; obtain ⟨f0, f1, f2, f3, f4, f5, f6, f7, f8, f9, f10, f11, f12⟩ := HCe.out _ hSw; go_simp⟩) hHeld ?_
      try simp only [Act.put]
      try simp only [List.getElem_toArray]
      try simp only [List.getElem_cons_succ]
      try simp only [List.getElem_cons_zero]
      try simp only [List.setIfInBounds_toArray]
      try simp only [List.set_cons_succ, List.set_cons_zero]
      refine wpAnyH_take (i := 8) (v := .agg #[.int .i64 er, .int .u64 ew]) rfl (by kernel_rfl) (by kernel_rfl) (by kernel_rfl) (fun _ _ _ h => h) (Or.inl ⟨by kernel_rfl, fun w1 hSw => by clear hHeld; obtain ⟨f0, f1, f2, f3, f4, f5, f6, f7, f8, f9, f10, f11, f12⟩ := HCe.out _ hSw; go_simp⟩) hHeld ?_
      try simp only [Act.put]
      try simp only [List.getElem_toArray]
      try simp only [List.getElem_cons_succ]
      try simp only [List.getElem_cons_zero]
      try simp only [List.setIfInBounds_toArray]
      try simp only [List.set_cons_succ, List.set_cons_zero]
      refine wpAnyH_take (i := 9) (v := .pointer (some ⟨w.heap.size, 12, none⟩)) rfl (by kernel_rfl) (by kernel_rfl) (by kernel_rfl) (fun _ _ _ h => h) (Or.inl ⟨by kernel_rfl, fun w1 hSw => by clear hHeld; obtain ⟨f0, f1, f2, f3, f4, f5, f6, f7, f8, f9, f10, f11, f12⟩ := HCe.out _ hSw; go_simp⟩) hHeld ?_
      try simp only [Act.put]
      try simp only [List.getElem_toArray]
      try simp only [List.getElem_cons_succ]
      try simp only [List.getElem_cons_zero]
      try simp only [List.setIfInBounds_toArray]
      try simp only [List.set_cons_succ, List.set_cons_zero]
      refine wpAnyH_take (i := 10) (v := .slice q et.length cq) rfl (by kernel_rfl) (by kernel_rfl) (by kernel_rfl) (fun _ _ _ h => h) (Or.inl ⟨by kernel_rfl, fun w1 hSw => by clear hHeld; obtain ⟨f0, f1, f2, f3, f4, f5, f6, f7, f8, f9, f10, f11, f12⟩ := HCe.out _ hSw; go_simp⟩) hHeld ?_
      try simp only [Act.put]
      try simp only [List.getElem_toArray]
      try simp only [List.getElem_cons_succ]
      try simp only [List.getElem_cons_zero]
      try simp only [List.setIfInBounds_toArray]
      try simp only [List.set_cons_succ, List.set_cons_zero]
      refine wpAnyH_ready (rs := [11]) (by kernel_rfl) (by simp) ?_
      refine AllReadyH.cons rfl (fun K hK => ?_) AllReadyH.nil
      go_simp
      refine HCl.out.mono ?_
      rintro e V1 ⟨t1, rfl, hown, hb⟩
      obtain ⟨ta, tc, ht1⟩ := own_slice hown
      subst ht1
      have HOw := hide hown
      have HVb := hide hb
      have HS1 : Hid ((fun V => V.heap[w.heap.size]? = some (.cells #[.int .i64 ek, .int .i64 eo, .int .i64 en, .int .i64 el, .int .i64 ((i : Int) + 1), .int .i64 eb, .int .i64 ei, .int .i64 ec, .int .i64 es, .int .i64 er, .int .u64 ew, .string ex, .slice q et.length cq] 43 (0, 0))) V1) := hide ((hb.block _ (lt_of_block hHeld)).trans hHeld)
      have HL := hide (let_any ((HW0.out).below hb) HE.out HI8.out ⟨es, eb, er, ew, et⟩ (.slice ta et.length tc) (own_base hown HBB.out) (fun x hx k e1 e2 => by have h5 := (HW0.out.logs x hx).lt k e2; have h6 := own_lo hown k e1; omega))
      clear hown hb
      refine hK.out _ _ (HS1.out) (fun hHeld => ?_)
      clear hK K
      try simp only [Act.put]
      try simp only [List.getElem_toArray]
      try simp only [List.getElem_cons_succ]
      try simp only [List.getElem_cons_zero]
      try simp only [List.setIfInBounds_toArray]
      try simp only [List.set_cons_succ, List.set_cons_zero]
      refine wpAnyH_take (i := 12) (v := .agg #[.int .i64 es, .int .i64 eb, .int .i64 er, .int .u64 ew, .slice ta et.length tc]) rfl (by kernel_rfl) (by kernel_rfl) (by kernel_rfl) (fun _ _ _ h => h) (Or.inl ⟨by kernel_rfl, fun w1 hSw => by clear hHeld; obtain ⟨f0, f1, f2, f3, f4, f5, f6, f7, f8, f9, f10, f11, f12⟩ := HCe.out _ hSw; go_simp⟩) hHeld ?_
      try simp only [Act.put]
      try simp only [List.getElem_toArray]
      try simp only [List.getElem_cons_succ]
      try simp only [List.getElem_cons_zero]
      try simp only [List.setIfInBounds_toArray]
      try simp only [List.set_cons_succ, List.set_cons_zero]
      refine wpAnyH_ready (rs := [13]) (by kernel_rfl) (by simp) ?_
      refine AllReadyH.cons rfl (fun K hK => ?_) AllReadyH.nil
      go_simp
      refine HL.out.mono ?_
      rintro e V2 ⟨rfl, ⟨s2, h3⟩, h4⟩
      have H3 := hide h3
      have H4 := hide h4
      have HS2 : Hid ((fun V => V.heap[w.heap.size]? = some (.cells #[.int .i64 ek, .int .i64 eo, .int .i64 en, .int .i64 el, .int .i64 ((i : Int) + 1), .int .i64 eb, .int .i64 ei, .int .i64 ec, .int .i64 es, .int .i64 er, .int .u64 ew, .string ex, .slice q et.length cq] 43 (0, 0))) V2) := hide (box_kt h4 hHeld)
      clear h3 h4
      refine hK.out _ _ (HS2.out) (fun hHeld => ?_)
      clear hK K
      try simp only [Act.put]
      try simp only [List.getElem_toArray]
      try simp only [List.getElem_cons_succ]
      try simp only [List.getElem_cons_zero]
      try simp only [List.setIfInBounds_toArray]
      try simp only [List.set_cons_succ, List.set_cons_zero]
      refine wpAnyH_done (by kernel_rfl) ?_ _
      have ce := HS2.out
      have h3 := H3.out
      have c1 := h3.cell 1 (by decide)
      dsimp only [hc, lt_] at c1
      have z1 := h3.z 1
      have x4 : V2.cell? ⟨w.heap.size, 4, none⟩ = some (.int .i64 ((i : Int) + 1)) := by simp [World.cell?, ce]
      have x5 : V2.cell? ⟨w.heap.size, 5, none⟩ = some (.int .i64 eb) := by simp [World.cell?, ce]
      have z25 := h3.z 25
      have c25 := h3.cell 25 (by decide)
      dsimp only [hc, lt_] at c25
      have hbV : b < V2.heap.size := h3.lt
      have hb0 : ¬ (b = w.heap.size) := HBL.out
      have hb1 : ¬ (w.heap.size = b) := fun e => HBL.out e.symm
      have HW : Hid (∀ v, v = max h.top eb → Hm ((V2.drew.setCell ⟨b, 1, none⟩ (.int .i64 v)).setCell ⟨b, 25, none⟩ (.int .i64 ((i : Int) + 1))) B b { lt_ h i ⟨es, eb, er, ew, et⟩ with top := max h.top eb, up := (i : Int) + 1 } s2 ∧ Kt B V2.drew ((V2.drew.setCell ⟨b, 1, none⟩ (.int .i64 v)).setCell ⟨b, 25, none⟩ (.int .i64 ((i : Int) + 1)))) := hide fun v e => by
        rw [e]
        have ha := (h3.below (Below.refl V2.heap.size V2).drew).setTop (max h.top eb)
        have hb := ha.1.setUp ((i : Int) + 1)
        exact ⟨hb.1, ha.2.trans hb.2⟩
      clear h3 ce
      go_wp2_with fail
      go_region
      all_goals go_wp2_with fail
      all_goals go_end0
      all_goals exact ⟨rfl, ⟨_, (HW.out _ (by omega)).1⟩, (((HK2.out.below HVb.out).trans H4.out).below (below_drewN (Below.refl _ _) 1)).trans (HW.out _ (by omega)).2⟩
    | false =>
      rw [if_neg (by decide)]
      dsimp only
      go_enter Try.func48, Try.ntmps48
      go_wp2_with fail
      refine HN.out.mono ?_
      rintro e w1 ⟨rfl, hb⟩
      have HB1 := hide hb
      have H2 := HH1.out.below hb
      have HH2 := hide H2
      have HK1 := hide (Kt.of_below (B := B) (below_of HBa.out hb))
      have ce := (hb.block _ (lt_of_block HBK.out)).trans HBK.out
      have x4 : w1.cell? ⟨w.heap.size, 4, none⟩ = some (.int .i64 ((i : Int) + 1)) := by simp [World.cell?, ce]
      have HN2 := hide (isNext_any H2 i)
      rw [hn] at HN2
      have HCE := hide ce
      clear hb H2 ce hn
      go_wp2_with fail
      refine HN2.out.mono ?_
      rintro e w2 ⟨rfl, hb2⟩
      have HKb := hide (HK1.out.below hb2)
      have H2 := HH2.out.below hb2
      have ce := (hb2.block _ (lt_of_block HCE.out)).trans HCE.out
      have x4 : w2.cell? ⟨w.heap.size, 4, none⟩ = some (.int .i64 ((i : Int) + 1)) := by simp [World.cell?, ce]
      have z25 := H2.z 25
      have c25 := H2.cell 25 (by decide)
      dsimp only [hc] at c25
      have HW := hide (H2.setUp ((i : Int) + 1))
      clear hb2 H2 ce
      go_wp2_with fail
      go_end0
      exact ⟨rfl, ⟨_, HW.out.1⟩, HKb.out.trans HW.out.2⟩
end
end Go.Proofs.Ytjfgmdiafhkbgaa
