import Derived.Test.YtjfgmdiafhkbgaaAuI
namespace Go.Proofs.Ytjfgmdiafhkbgaa
open Go.RowKit Go.MapKept
set_option maxRecDepth 8000

section
variable {w w' : World} {B b : Nat} {h : Hs} {s : Hi}
theorem jcs_set5 {L : List (Jb × Value)} {i : Nat} {x : Jb × Value} (hx : L[i]? = some x) (j : Jb) (v : Value) :
    (((((jcs L).set (i * 5) (.int .i64 j.st)).set (i * 5 + 1) (.int .i64 j.ba)).set (i * 5 + 2) (.int .i64 j.rt)).set (i * 5 + 3) (.int .u64 j.rb)).set (i * 5 + 4) v = jcs (L.set i (j, v)) := by
  obtain ⟨a, u⟩ := x
  have hl := (List.getElem?_eq_some_iff.1 hx).1
  have hs : ∀ (L' : List (Jb × Value)) (y z : Jb × Value), (L'.set i y).set i z = L'.set i z := fun L' y z => List.set_set ..
  have hg : ∀ (y : Jb × Value), (L.set i y)[i]? = some y := fun y => by rw [List.getElem?_set]; simp [hl]
  have e0 := jcs_set L i 0 (a, u) (⟨j.st, a.ba, a.rt, a.rb, a.lg⟩, u) (.int .i64 j.st) hx (by decide) rfl
  rw [Nat.add_zero] at e0
  rw [e0, jcs_set _ i 1 (⟨j.st, a.ba, a.rt, a.rb, a.lg⟩, u) (⟨j.st, j.ba, a.rt, a.rb, a.lg⟩, u) (.int .i64 j.ba) (hg _) (by decide) rfl, hs, jcs_set _ i 2 (⟨j.st, j.ba, a.rt, a.rb, a.lg⟩, u) (⟨j.st, j.ba, j.rt, a.rb, a.lg⟩, u) (.int .i64 j.rt) (hg _) (by decide) rfl, hs, jcs_set _ i 3 (⟨j.st, j.ba, j.rt, a.rb, a.lg⟩, u) (⟨j.st, j.ba, j.rt, j.rb, a.lg⟩, u) (.int .u64 j.rb) (hg _) (by decide) rfl, hs, jcs_set _ i 4 (⟨j.st, j.ba, j.rt, j.rb, a.lg⟩, u) (j, v) v (hg _) (by decide) rfl, hs]
abbrev put5 (w : World) (g a : Nat) (j : Jb) (v : Value) : World := ((((w.setCell ⟨g, a, none⟩ (.int .i64 j.st)).setCell ⟨g, a + 1, none⟩ (.int .i64 j.ba)).setCell ⟨g, a + 2, none⟩ (.int .i64 j.rt)).setCell ⟨g, a + 3, none⟩ (.int .u64 j.rb)).setCell ⟨g, a + 4, none⟩ v
theorem own_put5 {L : List (Jb × Value)} {i g cap : Nat} {x : Jb × Value} (hx : L[i]? = some x) (ho : w.ownsRow B 87 5 (.slice (some ⟨g, 0, none⟩) L.length cap) L.length (jcs L)) (j : Jb) (v : Value) :
    (put5 w g (i * 5) j v).ownsRow B 87 5 (.slice (some ⟨g, 0, none⟩) L.length cap) L.length (jcs (L.set i (j, v))) ∧ w.grownBy (put5 w g (i * 5) j v) (some g) := by
  have h0 := ho.stored (i * 5) (.int .i64 j.st)
  have h1 := h0.1.stored (i * 5 + 1) (.int .i64 j.ba)
  have h2 := h1.1.stored (i * 5 + 2) (.int .i64 j.rt)
  have h3 := h2.1.stored (i * 5 + 3) (.int .u64 j.rb)
  have h4 := h3.1.stored (i * 5 + 4) v
  refine ⟨?_, grown_trans (grown_trans (grown_trans (grown_trans h0.2 h1.2) h2.2) h3.2) h4.2⟩
  rw [← jcs_set5 hx j v]
  exact h4.1
/-- a job is laid down whole, its log beside -/
theorem Hm.lay (H : Hm w B b h s) {i : Nat} (hi : i < h.jobs.length) {g n cap : Nat} (hjv : s.jv = .slice (some ⟨g, 0, none⟩) n cap) (j : Jb) (lv : Value) (hown : w.ownsRow B 9 1 lv j.lg.length (tcs j.lg)) (hap : ∀ m x, m ≠ i → s.L[m]? = some x → ∀ k, lv.ownBlock = some k → x.2.ownBlock ≠ some k) :
    (∃ s', Hm (put5 w g (i * 5) j lv) B b { h with jobs := h.jobs.set i j } s') ∧ Kt B w (put5 w g (i * 5) j lv) := by
  obtain ⟨v0, hL, _⟩ := H.at hjv hi
  have hr := H.row
  obtain ⟨ad, cap', hv'⟩ := own_slice hr
  rw [hjv] at hv'
  injection hv' with e1 e2 e3
  subst e2
  rw [hjv] at hr
  obtain ⟨h1, h2⟩ := own_put5 hL hr j lv
  have := H.put (lv := lv) (j := j) hL hjv (grown_refl w none) (fun k e => by cases e) h2 (by rw [hjv]; exact h1) hown hap
  exact ⟨⟨_, this.1⟩, this.2⟩
theorem Hm.z5 (H : Hm w B b h s) {g n cap : Nat} (hjv : s.jv = .slice (some ⟨g, 0, none⟩) n cap) (k : Nat) : w.frozen? ⟨g, k, none⟩ = false := by
  obtain ⟨c, hc⟩ := own_type H.row g (by rw [hjv]; rfl)
  simp [World.frozen?, hc]
theorem j0_one : ∀ u ∈ j0.cs (.slice none 0 0), u.oneCell' = true := by
  have : (j0.cs (.slice none 0 0)).all (fun u => u.oneCell') = true := rfl
  exact fun u hu => List.all_eq_true.1 this u hu
set_option maxHeartbeats 4000000 in
theorem let_any (H : Hm w B b h s) {i : Nat} (hi : i ≤ h.jobs.length) (hi8 : i < 8) (j : Jb) (lv : Value) (hown : w.ownsRow B 9 1 lv j.lg.length (tcs j.lg)) (hap : ∀ x ∈ s.L, ∀ k, lv.ownBlock = some k → x.2.ownBlock ≠ some k) :
    Calls Try.prog 59 #[.pointer (some ⟨b, 0, none⟩), nr i, j.v lv] w fun r w' => r = .returned (.tuple #[]) ∧ (∃ s', Hm w' B b (lt_ h i j) s') ∧ Kt B w w' := by
  have hBa := below_alloc w (.cells #[.int .i64 j.st, .int .i64 j.ba, .int .i64 j.rt, .int .u64 j.rb, lv] 87)
  have hbk := heap_alloc_new w (.cells #[.int .i64 j.st, .int .i64 j.ba, .int .i64 j.rt, .int .u64 j.rb, lv] 87)
  have H1 := H.below hBa
  have HN := hide (isNext_any H1 i)
  have hO1 := own_keep (w' := w.alloc (.cells #[.int .i64 j.st, .int .i64 j.ba, .int .i64 j.rt, .int .u64 j.rb, lv] 87)) hown fun k e => hBa.block k (hown.lt k e).2
  obtain ⟨ad, cap, hjv⟩ := H.form
  have l8 := H.l8
  have HBa := hide hBa
  have HAP := hide hap
  have HH1 := hide H1
  have HO1 := hide hO1
  have HBK := hide hbk
  obtain ⟨la, lc, rfl⟩ := own_slice hown
  by_cases he : i = h.jobs.length
  · have HF : Hid (nxt h i = true) := hide (by unfold nxt; exact decide_eq_true he)
    rw [HF.out] at HN
    have HL : Hid (lt_ h i j = { h with jobs := (h.jobs ++ [j0]).set i j }) := hide (by
      unfold lt_
      rw [if_neg (by omega), he]
      simp)
    have h7 : h.jobs.length < 8 := by omega
    obtain ⟨iJ, hiJ, zJ0, zJ1, zJ2⟩ := info_parts Try.infoJb
    have HE := hide he
    have HRow : Hid (∀ W, Below w.heap.size w W → W.ownsRow B 87 5 (.slice ad h.jobs.length cap) h.jobs.length (jcs s.L)) := hide fun W hb => by
      have := (H.below hb).row
      rwa [hjv, H.len] at this
    have HLen := hide H.len
    have H0 := hide H
    have HX : Hid (h.jobs.length < 8) := hide h7
    have e8 : (h.jobs.length : Int) ≤ 8 := by omega
    have hBB : Hid (B ≤ w.heap.size) := hide (Nat.le_of_lt (Nat.lt_of_le_of_lt H.lo.1 H.lt))
    subst he
    clear H H1 hown hap hi hi8 h7 hBa hO1 hbk
    go_enter Try.func59, Try.ntmps59
    go_wp2_with fail
    refine HN.out.mono ?_
    rintro e w1 ⟨rfl, hb⟩
    have HB1 := hide hb
    have c0 := (HH1.out.below hb).c0 hjv
    have HBw := hide (below_of HBa.out hb)
    have HBw2 := hide (below_of HBw.out (below_alloc w1 (.cells (j0.cs (.slice none 0 0)).toArray 87)))
    have HH2 := hide (H0.out.below HBw2.out)
    have hbl : b < w1.heap.size := (HH1.out.below hb).lt
    have ce := (hb.block _ (lt_of_block HBK.out)).trans HBK.out
    have HCE := hide ce
    clear hb ce
    go_wp2_with (at_builtin; refine wpList_append_own _ rfl _ _ 72 rfl B 87 iJ (j0.v (.slice none 0 0)) 5 56 Try.underlying72 hiJ zJ0 zJ1 zJ2 rfl (by decide) (.slice ad h.jobs.length cap) h.jobs.length (jcs s.L) rfl (HRow.out _ HBw2.out) ⟨w1.heap.size, 0, none⟩ 1 1 (j0.cs (.slice none 0 0)) rfl rfl (World.news_of_block (heap_alloc_new w1 _)) j0_one (by unfold maxLen; omega) (by omega) (Nat.le_trans hBB.out HBw2.out.size) ?_; intro v' w3 hown hgrow hnil; have HO3 := hide hown; have HG3 := hide hgrow; (have HP := hide (HH2.out.push HX.out (by rw [hjv]; exact hgrow) (by rw [HLen.out]; exact hown))); (obtain ⟨_, _, z3, c3⟩ := HP.out); (obtain ⟨ad3, cap3, hv3⟩ := own_slice hown); subst hv3; clear hown hgrow hnil)
    have hbw : b < w.heap.size := H0.out.lt
    have HJl : Hid (∀ k, (Value.slice ad h.jobs.length cap).ownBlock = some k → k < w.heap.size) := hide fun k e => (H0.out.row.lt k (by rw [hjv]; exact e)).2
    have hwl := lt_of_block HCE.out
    have HBox : Hid ((w3.setCell ⟨b, 0, none⟩ (.slice ad3 (h.jobs.length + 1) cap3)).heap[w.heap.size]? = some (.cells #[.int .i64 j.st, .int .i64 j.ba, .int .i64 j.rt, .int .u64 j.rb, .slice la j.lg.length lc] 87 (0, 0))) := hide (by
      rw [Below.heap_setCell _ ⟨b, 0, none⟩ _ _ (show w.heap.size ≠ b by omega)]
      exact (HG3.out.block _ (by rw [World.size_alloc]; omega) (fun e => by have := HJl.out _ e.symm; omega)).trans ((Below.heap_alloc w1 _ _ hwl).trans HCE.out))
    have hO2 : (w1.alloc (.cells (j0.cs (.slice none 0 0)).toArray 87)).ownsRow B 9 1 (.slice la j.lg.length lc) j.lg.length (tcs j.lg) := own_keep HO1.out fun k e => (Below.heap_alloc w1 _ _ (Nat.lt_of_lt_of_le (HO1.out.lt k e).2 HB1.out.size)).trans (HB1.out.block k (HO1.out.lt k e).2)
    have hO3 : w3.ownsRow B 9 1 (.slice la j.lg.length lc) j.lg.length (tcs j.lg) := own_keep hO2 fun k e => HG3.out.block k (hO2.lt k e).2 fun e2 => own_apart hO2 (HRow.out _ HBw2.out) (by decide) k e e2.symm
    have HO4 : Hid ((w3.setCell ⟨b, 0, none⟩ (.slice ad3 (h.jobs.length + 1) cap3)).ownsRow B 9 1 (.slice la j.lg.length lc) j.lg.length (tcs j.lg)) := hide (own_keep hO3 fun k e => Below.heap_setCell _ ⟨b, 0, none⟩ _ _ (fun e1 : k = b => by
      obtain ⟨c, hc⟩ := own_type hO2 k e
      obtain ⟨c2, hc2, _⟩ := HH2.out.blk
      rw [e1, hc2] at hc
      injection hc with hc
      injection hc with _ hc
      exact absurd hc (by decide)))
    have HPm := hide HP.out.1
    have HPk := hide ((Kt.of_below HBw2.out).trans HP.out.2.1)
    clear hO2 hO3 HP HH2 HO3 HG3 z3 c3
    generalize (w3.setCell ⟨b, 0, none⟩ (.slice ad3 (h.jobs.length + 1) cap3)) = W at *
    have hlen : h.jobs.length < (h.jobs ++ [j0]).length := by simp
    have HH3 := HPm.out
    obtain ⟨g, rfl⟩ := HH3.grow rfl hlen
    have c0' := HH3.c0 rfl
    obtain ⟨v0, hL, k0, k1, k2, k3, k4⟩ := HH3.at rfl hlen
    have z0 := HH3.z5 rfl (h.jobs.length * 5)
    have z1 := HH3.z5 rfl (h.jobs.length * 5 + 1)
    have z2 := HH3.z5 rfl (h.jobs.length * 5 + 2)
    have z3 := HH3.z5 rfl (h.jobs.length * 5 + 3)
    have z4 := HH3.z5 rfl (h.jobs.length * 5 + 4)
    have e0 : W.cell? ⟨w.heap.size, 0, none⟩ = some (.int .i64 j.st) := by simp [World.cell?, HBox.out]
    have e1 : W.cell? ⟨w.heap.size, 1, none⟩ = some (.int .i64 j.ba) := by simp [World.cell?, HBox.out]
    have e2 : W.cell? ⟨w.heap.size, 2, none⟩ = some (.int .i64 j.rt) := by simp [World.cell?, HBox.out]
    have e3 : W.cell? ⟨w.heap.size, 3, none⟩ = some (.int .u64 j.rb) := by simp [World.cell?, HBox.out]
    have e4 : W.cell? ⟨w.heap.size, 4, none⟩ = some (.slice la j.lg.length lc) := by simp [World.cell?, HBox.out]
    have HW := hide ((HPm.out.below (Below.refl W.heap.size W).drew).lay hlen rfl j (.slice la j.lg.length lc) (own_keep HO4.out fun k e => rfl) (fun m x _ hm => by
      rcases List.mem_append.1 (List.mem_of_getElem? hm) with hx | hx
      · exact HAP.out x hx
      · simp at hx
        subst hx
        intro k _ e
        cases e))
    have ii : ((h.jobs.length : Nat) : Int) < ((h.jobs.length + 1 : Nat) : Int) := by omega
    clear HH3 hL hlen
    go_wp2_with fail
    go_region
    go_wp2_with fail
    go_end0
    refine ⟨rfl, ?_, (HPk.out.below (below_drewN (Below.refl _ _) 1)).trans HW.out.2⟩
    rw [HL.out]
    exact HW.out.1
  · have HF : Hid (nxt h i = false) := hide (by unfold nxt; exact decide_eq_false he)
    rw [HF.out] at HN
    have hi2 : i < h.jobs.length := by omega
    obtain ⟨g, rfl⟩ := H.grow hjv hi2
    have HL : Hid (lt_ h i j = { h with jobs := h.jobs.set i j }) := hide (by unfold lt_; rw [if_pos hi2])
    have HI2 := hide hi2
    have i8 : (i : Int) ≤ 8 := by omega
    have ii : (i : Int) < (h.jobs.length : Int) := by omega
    clear H H1 hown hap he hi hi2 hBa hO1 hbk
    go_enter Try.func59, Try.ntmps59
    go_wp2_with fail
    refine HN.out.mono ?_
    rintro e w1 ⟨rfl, hb⟩
    have HB1 := hide hb
    have H2 := HH1.out.below hb
    have HH2 := hide H2
    have c0 := H2.c0 hjv
    obtain ⟨v0, hL, k0, k1, k2, k3, k4⟩ := H2.at hjv HI2.out
    have z0 := H2.z5 hjv (i * 5)
    have z1 := H2.z5 hjv (i * 5 + 1)
    have z2 := H2.z5 hjv (i * 5 + 2)
    have z3 := H2.z5 hjv (i * 5 + 3)
    have z4 := H2.z5 hjv (i * 5 + 4)
    have ce := (hb.block _ (lt_of_block HBK.out)).trans HBK.out
    have e0 : w1.cell? ⟨w.heap.size, 0, none⟩ = some (.int .i64 j.st) := by simp [World.cell?, ce]
    have e1 : w1.cell? ⟨w.heap.size, 1, none⟩ = some (.int .i64 j.ba) := by simp [World.cell?, ce]
    have e2 : w1.cell? ⟨w.heap.size, 2, none⟩ = some (.int .i64 j.rt) := by simp [World.cell?, ce]
    have e3 : w1.cell? ⟨w.heap.size, 3, none⟩ = some (.int .u64 j.rb) := by simp [World.cell?, ce]
    have e4 : w1.cell? ⟨w.heap.size, 4, none⟩ = some (.slice la j.lg.length lc) := by simp [World.cell?, ce]
    have HW := hide (HH2.out.below ((Below.refl w1.heap.size w1).drew) |>.lay HI2.out hjv j (.slice la j.lg.length lc) (own_keep HO1.out fun k e => hb.block k (HO1.out.lt k e).2) (fun m x _ hm => HAP.out x (List.mem_of_getElem? hm)))
    clear hb ce H2 hL
    go_wp2_with fail
    go_region
    go_wp2_with fail
    go_end0
    refine ⟨rfl, ?_, ((Kt.of_below (below_of HBa.out HB1.out)).below (below_drewN (Below.refl _ _) 1)).trans HW.out.2⟩
    rw [HL.out]
    exact HW.out.1
end
end Go.Proofs.Ytjfgmdiafhkbgaa
