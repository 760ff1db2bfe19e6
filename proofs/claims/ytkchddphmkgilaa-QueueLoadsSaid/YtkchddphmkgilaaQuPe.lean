import Derived.Test.YtkchddphmkgilaaQuPd
namespace Go.Proofs.Ytkchddphmkgilaa
open Go.RowKit

set_option maxHeartbeats 8000000 in
set_option maxRecDepth 8000 in
theorem played_any {B : Nat} {m : Int} {w : World} {b : Nat} {v : Value} {x : Nat} {ad : Option Addr} {ab cap : Nat} {L : List Rr} (h : Pr B m w b v x ad ab cap L) (hx : B ≤ x) (hBw : B ≤ w.heap.size) {ad3 : Option Addr} {ab3 ao3 cap3 : Nat} {Q : List Rr} (h3 : Rs w ad3 ab3 ao3 Q) (hab : 0 < Q.length → ab3 < B) (hQl : Q.length ≤ 2199023255488) (hj : ∀ i (h : i < Q.length), -9223372036854775808 ≤ (Q[i]).job ∧ (Q[i]).job ≤ 9223372036854775807) :
    Calls Try.prog 7 #[.agg #[.pointer (some ⟨b, 0, none⟩), .pointer (some ⟨x, 0, none⟩)], .slice ad3 Q.length cap3] w fun e w' => e = .returned (.bool true) ∧ Below B w w' := by
  obtain ⟨iP, hiP, zP0, zP1, zP2⟩ := info_parts Try.infoP
  obtain ⟨W1, hW1⟩ : ∃ W1, w.alloc (pobj b x) = W1 := ⟨_, rfl⟩
  have hb1 : Below w.heap.size w W1 := by rw [← hW1]; exact below_alloc _ _
  have hs1 : W1.heap.size = w.heap.size + 1 := by rw [← hW1]; exact World.size_alloc _ _
  have START : Hid (Mem B m (W1.alloc (pobj b x)) (.slice (some ⟨W1.heap.size, 0, none⟩) 1 1) [⟨b, v, x, ad, ab, cap, L⟩]) := by
    refine ⟨?_, Kp.one ((h.below hb1).below (below_alloc _ _)) hx⟩
    exact World.ownsRow_lit (base := B) (e := 41) (size := 2) W1 #[.pointer (some ⟨b, 0, none⟩), .pointer (some ⟨x, 0, none⟩)] 1 (by omega) (by unfold maxLen; omega) rfl
  have STB : Hid (Below B w (W1.alloc (pobj b x))) := hide ((hb1.mono hBw).alloc (by omega) _)
  have p0 : W1.cell? ⟨w.heap.size, 0, none⟩ = some (.pointer (some ⟨b, 0, none⟩)) := by have := heap_alloc_new w (pobj b x); rw [hW1] at this; simp [World.cell?, this]
  have p1 : W1.cell? ⟨w.heap.size, 1, none⟩ = some (.pointer (some ⟨x, 0, none⟩)) := by have := heap_alloc_new w (pobj b x); rw [hW1] at this; simp [World.cell?, this]
  have KR : Hid (∀ w2, Below B w w2 → Rs w2 ad3 ab3 ao3 Q) := hide fun w2 hb => h3.keep (fun h0 => hb.block _ (hab h0))
  have HJ := hide hj
  clear h hb1 h3 hs1 hj
  go_enter Try.func7, Try.ntmps7
  go_upto_region 2 with fail
  clear hW1 p0 p1
  go_wp2_with fail
  go_loopw [5, 6] (fun u t wr => ∃ (g cap i : Nat) (S : List Sc), u = .slice (some ⟨g, 0, none⟩) S.length cap ∧ t = .int .i64 (i : Int) ∧ i ≤ Q.length ∧ 1 ≤ S.length ∧ S.length ≤ 8 ∧ Hid (Mem B m wr (.slice (some ⟨g, 0, none⟩) S.length cap) S) ∧ Hid (Below B w wr)) (fun _ t _ => (Q.length - (intOf t).toNat))
  case atStart => exact ⟨_, _, 0, [⟨b, v, x, ad, ab, cap, L⟩], rfl, rfl, Nat.zero_le _, Nat.le_refl _, (by decide : 1 ≤ 8), START, STB⟩
  case round =>
    clear START STB
    obtain ⟨g, cap, i, S, rfl, rfl, hi, hL1, hL8, HM, HB⟩ := hrel
    have hBr : B ≤ wr.heap.size := Nat.le_trans hBw HB.out.size
    by_cases hil : i < Q.length
    · have hii : (i : Int) < (Q.length : Int) := by omega
      have hat := (KR.out wr HB.out).at_ (by omega)
      have habB := hab (by omega)
      subst hat
      have KO := hide (fun V (hV : Below B w V) => (KR.out V hV).eight hil)
      have hbo := HJ.out i hil
      generalize Q[i] = o at *
      obtain ⟨g0, g1, g2, g3, g4, g5, g6, g7⟩ := KO.out _ HB.out
      go_wp2_with fail
      refine (place_any (m := S.length) (by omega) (by omega) hbo).mono ?_
      rintro e wr' ⟨rfl, e1⟩
      obtain rfl := e1
      have hpS : pl o.job S.length < S.length := pl_lt (by omega)
      generalize pl o.job S.length = p at *
      obtain ⟨s, hs⟩ : ∃ s, S[p]? = some s := ⟨_, List.getElem?_eq_getElem hpS⟩
      have hpI : (p : Int) < (S.length : Int) := by omega
      obtain ⟨m0, m1⟩ := HM.out.cell hs
      have HI : Hid (MI B m w (.slice (some ⟨g, 0, none⟩) S.length cap) S.length p s.b s.x wr'.heap.size (wr'.alloc (pobj s.b s.x))) := hide ⟨S, s, rfl, hs, rfl, rfl, HM.out.below (below_alloc _ _), HB.out.alloc hBr _, heap_alloc_new _ _⟩
      have hsz := World.size_alloc wr' (pobj s.b s.x)
      have hBr2 : B ≤ (wr'.alloc (pobj s.b s.x)).heap.size := by omega
      clear g0 g1 g2 g3 g4 g5 g6 g7 hs HB HM
      obtain ⟨bb, hbb⟩ : ∃ y, s.b = y := ⟨_, rfl⟩
      obtain ⟨xx, hxx⟩ : ∃ y, s.x = y := ⟨_, rfl⟩
      rw [hbb, hxx] at HI hsz hBr2
      rw [hbb] at m0
      rw [hxx] at m1
      clear hbb hxx
      go_upto_region 6 with fail
      clear m0 m1
      generalize wr'.alloc (pobj bb xx) = W2 at *
      generalize wr'.heap.size = P at *
      clear hsz
      refine wp_region_held_drew (S := fun w' => MI B m w (.slice (some ⟨g, 0, none⟩) S.length cap) S.length p bb xx P w' ∧ B ≤ w'.heap.size) (by kernel_rfl) (⟨HI.out.below hBr2 ⟨rfl, rfl, rfl, Nat.le_refl _, fun _ _ => rfl⟩, hBr2⟩) (fun hHeld => ?_)
      refine wpAnyH_take (i := 0) (v := .agg #[.pointer (some ⟨bb, 0, none⟩), .pointer (some ⟨xx, 0, none⟩)]) rfl (by kernel_rfl) (by kernel_rfl) (by kernel_rfl) (fun _ _ _ h => h) (Or.inl ⟨by kernel_rfl, fun w1 hSw => by clear hHeld; obtain ⟨p0, p1⟩ := hSw.1.cells; obtain ⟨g0, g1, g2, g3, g4, g5, g6, g7⟩ := KO.out _ hSw.1.bel; clear hSw; go_simp⟩) hHeld ?_
      try simp only [Act.put]
      try simp only [List.getElem_toArray]
      try simp only [List.getElem_cons_succ]
      try simp only [List.getElem_cons_zero]
      try simp only [List.setIfInBounds_toArray]
      try simp only [List.set_cons_succ, List.set_cons_zero]
      refine wpAnyH_take (i := 1) (v := .slice (some ⟨ab3, ao3, none⟩) Q.length cap3) rfl (by kernel_rfl) (by kernel_rfl) (by kernel_rfl) (fun _ _ _ h => h) (Or.inl ⟨by kernel_rfl, fun w1 hSw => by clear hHeld; obtain ⟨p0, p1⟩ := hSw.1.cells; obtain ⟨g0, g1, g2, g3, g4, g5, g6, g7⟩ := KO.out _ hSw.1.bel; clear hSw; go_simp⟩) hHeld ?_
      try simp only [Act.put]
      try simp only [List.getElem_toArray]
      try simp only [List.getElem_cons_succ]
      try simp only [List.getElem_cons_zero]
      try simp only [List.setIfInBounds_toArray]
      try simp only [List.set_cons_succ, List.set_cons_zero]
      refine wpAnyH_take (i := 2) (v := .int .i64 (i : Int)) rfl (by kernel_rfl) (by kernel_rfl) (by kernel_rfl) (fun _ _ _ h => h) (Or.inl ⟨by kernel_rfl, fun w1 hSw => by clear hHeld; obtain ⟨p0, p1⟩ := hSw.1.cells; obtain ⟨g0, g1, g2, g3, g4, g5, g6, g7⟩ := KO.out _ hSw.1.bel; clear hSw; go_simp⟩) hHeld ?_
      try simp only [Act.put]
      try simp only [List.getElem_toArray]
      try simp only [List.getElem_cons_succ]
      try simp only [List.getElem_cons_zero]
      try simp only [List.setIfInBounds_toArray]
      try simp only [List.set_cons_succ, List.set_cons_zero]
      refine wpAnyH_take (i := 3) (v := .pointer (some ⟨ab3, ao3 + i * 8, none⟩)) rfl (by kernel_rfl) (by kernel_rfl) (by kernel_rfl) (fun _ _ _ h => h) (Or.inl ⟨by kernel_rfl, fun w1 hSw => by clear hHeld; obtain ⟨p0, p1⟩ := hSw.1.cells; obtain ⟨g0, g1, g2, g3, g4, g5, g6, g7⟩ := KO.out _ hSw.1.bel; clear hSw; go_simp⟩) hHeld ?_
      try simp only [Act.put]
      try simp only [List.getElem_toArray]
      try simp only [List.getElem_cons_succ]
      try simp only [List.getElem_cons_zero]
      try simp only [List.setIfInBounds_toArray]
      try simp only [List.set_cons_succ, List.set_cons_zero]
      refine wpAnyH_take (i := 4) (v := .agg #[.int .i64 o.job, .int .i64 o.st, .int .i64 o.att, .int .i64 o.bdg, .int .i64 o.node, .int .i64 o.life, .int .i64 o.code, .int .u64 o.bits]) rfl (by kernel_rfl) (by kernel_rfl) (by kernel_rfl) (fun _ _ _ h => h) (Or.inl ⟨by kernel_rfl, fun w1 hSw => by clear hHeld; obtain ⟨p0, p1⟩ := hSw.1.cells; obtain ⟨g0, g1, g2, g3, g4, g5, g6, g7⟩ := KO.out _ hSw.1.bel; clear hSw; go_simp⟩) hHeld ?_
      try simp only [Act.put]
      try simp only [List.getElem_toArray]
      try simp only [List.getElem_cons_succ]
      try simp only [List.getElem_cons_zero]
      try simp only [List.setIfInBounds_toArray]
      try simp only [List.set_cons_succ, List.set_cons_zero]
      refine wpAnyH_ready (rs := [5]) (by kernel_rfl) (by simp) ?_
      refine AllReadyH.cons rfl (fun K hK => ?_) AllReadyH.nil
      go_simp
      refine (hHeld.1.call hBw o).mono ?_
      rintro e w5 ⟨rfl, hI5⟩
      refine hK.out _ _ (⟨hI5, Nat.le_trans hBw hI5.bel.size⟩) (fun hHeld => ?_)
      clear hK K
      try simp only [Act.put]
      try simp only [List.getElem_toArray]
      try simp only [List.getElem_cons_succ]
      try simp only [List.getElem_cons_zero]
      try simp only [List.setIfInBounds_toArray]
      try simp only [List.set_cons_succ, List.set_cons_zero]
      refine wpAnyH_take (i := 6) (v := .bool true) rfl (by kernel_rfl) (by kernel_rfl) (by kernel_rfl) (fun _ _ _ h => h) (Or.inl ⟨by kernel_rfl, fun w1 hSw => by clear hHeld; obtain ⟨p0, p1⟩ := hSw.1.cells; obtain ⟨g0, g1, g2, g3, g4, g5, g6, g7⟩ := KO.out _ hSw.1.bel; clear hSw; go_simp⟩) hHeld ?_
      try simp only [Act.put]
      try simp only [List.getElem_toArray]
      try simp only [List.getElem_cons_succ]
      try simp only [List.getElem_cons_zero]
      try simp only [List.setIfInBounds_toArray]
      try simp only [List.set_cons_succ, List.set_cons_zero]
      refine wpAnyH_done (by kernel_rfl) ?_ _
      obtain ⟨p0, p1⟩ := hHeld.1.cells
      obtain ⟨⟨S5, s5, hS5, hs5, rfl, rfl, hM5, hB5, hP5⟩, hBw5⟩ := hHeld
      obtain ⟨g0, g1, g2, g3, g4, g5, g6, g7⟩ := KO.out _ hB5
      have HS5 := hide hs5
      have HP5 := hide hP5
      have HB5 := hide hB5
      have HQ5 := hide (hM5.kp.pr p s5 hs5)
      clear HI hI5 hs5 hB5 hP5 hBr hpS hpI
      have hi5 : 1 ≤ S5.length := by omega
      have hi6 : S5.length ≤ 8 := by omega
      clear hL1 hL8
      rw [← hS5] at hM5 ⊢
      have HM5 := hide hM5
      clear hM5 hS5
      by_cases hk : o.st = 9
      · have bk : (o.st == 9) = true := by simpa using hk
        by_cases h8 : S5.length < 8
        · have d8 : decide ((S5.length : Int) < 8) = true := by simp; omega
          go_wp2_with fail
          refine (qclone_any HQ5.out.q HQ5.out.ok.len).mono ?_
          rintro e w6 ⟨b6, v6, rfl, hq6, hB6⟩
          have HQ6 := hide hq6
          have HB6 := hide hB6
          obtain ⟨p0, p1⟩ : w6.cell? ⟨P, 0, none⟩ = some (.pointer (some ⟨s5.b, 0, none⟩)) ∧ w6.cell? ⟨P, 1, none⟩ = some (.pointer (some ⟨s5.x, 0, none⟩)) := by
            have := (hB6.block _ (lt_of_block HP5.out)).trans HP5.out
            simp [World.cell?, this]
          clear hq6 hB6 g0 g1 g2 g3 g4 g5 g6 g7
          go_wp2_with fail
          refine (rcopy_any (HQ5.out.x.below HB6.out)).mono ?_
          rintro e w7 ⟨rfl, hX7, hB7⟩
          have HX7 := hide hX7
          have HB7 := hide hB7
          have HROW := hide (own_below (own_below HM5.out.rl HB6.out) hB7)
          have HS7 : Hid (B ≤ w7.heap.size) := hide (by have := HB6.out.size; have := hB7.size; omega)
          clear hX7 hB7 p0 p1
          go_upto_region 4 with (at_builtin; refine wpList_append_lies _ rfl _ _ 51 rfl B 41 iP (.agg #[.pointer none, .pointer none]) 2 16 Try.underlying51 hiP zP0 zP1 zP2 rfl (by decide) (.slice (some ⟨g, 0, none⟩) S5.length cap) S5.length (pcs S5) rfl (own_below HROW.out (below_alloc w7 _)) ⟨w7.heap.size, 0, none⟩ 1 1 [.pointer (some ⟨b6, 0, none⟩), .pointer (some ⟨w6.heap.size, 0, none⟩)] rfl rfl (World.news_of_block (cs := #[.pointer (some ⟨b6, 0, none⟩), .pointer (some ⟨w6.heap.size, 0, none⟩)]) (t := 41) (fr := (0, 0)) (heap_alloc_new w7 _)) (by intro u hu; simp at hu; rcases hu with rfl | rfl <;> rfl) (by decide) (by unfold maxLen; omega) (by omega) (by rw [World.size_alloc]; have := HS7.out; omega) (w7.heap.size + 1) (by rw [World.size_alloc]) ?_; intro g9 cap9 w9 hown9 hgrow9 hat9 hlt9)
          have hP := HM5.out.push HS5.out HQ6.out HB6.out HX7.out HB7.out hown9 hgrow9 hBw5
          have HP1 := hide hP.1
          have HP2 := hide (HB5.out.trans hP.2)
          clear hP hown9 hgrow9 hat9 hlt9
          go_wp2_with fail
          refine ⟨⟨g9, cap9, i + 1, S5 ++ [⟨b6, v6, w6.heap.size, s5.ad, s5.ab, s5.cap, s5.L⟩], by rw [List.length_append]; rfl, by go_num, by omega, by rw [List.length_append]; simp, by rw [List.length_append, List.length_singleton]; omega, ?_, HP2⟩, by simp [intOf]; omega⟩
          rw [List.length_append]; exact HP1
        · have d8 : decide ((S5.length : Int) < 8) = false := by simp; omega
          go_wp2_with fail
          exact ⟨⟨g, cap, i + 1, S5, rfl, by go_num, by omega, hi5, hi6, HM5, HB5⟩, by simp [intOf]; omega⟩
      · have bk : (o.st == 9) = false := by simpa using hk
        go_wp2_with fail
        exact ⟨⟨g, cap, i + 1, S5, rfl, by go_num, by omega, hi5, hi6, HM5, HB5⟩, by simp [intOf]; omega⟩
    · have hii : ¬ (i : Int) < (Q.length : Int) := by omega
      clear hi hil
      go_wp2_with fail
      go_loopw [10] (fun u wx => ∃ j : Nat, u = .int .i64 (j : Int) ∧ j ≤ S.length ∧ Hid (Mem B m wx (.slice (some ⟨g, 0, none⟩) S.length cap) S) ∧ Hid (Below B w wx)) (fun u _ => (S.length - (intOf u).toNat))
      case atStart => exact ⟨0, rfl, Nat.zero_le _, HM, HB⟩
      case round =>
        clear HM HB hBr hii
        obtain ⟨j, rfl, hj, HM, HB⟩ := hrel
        have hBr : B ≤ wr.heap.size := Nat.le_trans hBw HB.out.size
        by_cases hjl : j < S.length
        · obtain ⟨s, hs⟩ : ∃ s, S[j]? = some s := ⟨_, List.getElem?_eq_getElem hjl⟩
          have hjI : (j : Int) < (S.length : Int) := by omega
          have HPX := hide (HM.out.kp.pr j s hs)
          have HC : Hid (∀ V, Below wr.heap.size wr V → (V.cell? ⟨g, j * 2, none⟩ = some (.pointer (some ⟨s.b, 0, none⟩)) ∧ V.cell? ⟨g, j * 2 + 1, none⟩ = some (.pointer (some ⟨s.x, 0, none⟩))) ∧ V.cell? ⟨s.x, 1, none⟩ = some (.slice s.ad s.L.length s.cap)) := hide (fun V hV => ⟨(HM.out.below hV).cell hs, (HPX.out.x.below hV).c1⟩)
          have hl := HPX.out.ok.len
          have t1 : (hd s.L == hd s.L) = true := by simp
          clear hs
          go_upto_region 17 with fail
          refine wp_region_held_drew (S := fun w' => Below wr.heap.size wr w') (by kernel_rfl) (⟨rfl, rfl, rfl, Nat.le_refl _, fun _ _ => rfl⟩) (fun hHeld => ?_)
          refine wpAnyH_take (i := 0) (v := .slice (some ⟨g, 0, none⟩) S.length cap) rfl (by kernel_rfl) (by kernel_rfl) (by kernel_rfl) (fun _ _ _ h => h) (Or.inl ⟨by kernel_rfl, fun w1 hSw => by clear hHeld; obtain ⟨⟨m0, m1⟩, cx⟩ := HC.out _ hSw; clear hSw; go_simp⟩) hHeld ?_
          try simp only [Act.put]
          try simp only [List.getElem_toArray]
          try simp only [List.getElem_cons_succ]
          try simp only [List.getElem_cons_zero]
          try simp only [List.setIfInBounds_toArray]
          try simp only [List.set_cons_succ, List.set_cons_zero]
          refine wpAnyH_take (i := 1) (v := .int .i64 (j : Int)) rfl (by kernel_rfl) (by kernel_rfl) (by kernel_rfl) (fun _ _ _ h => h) (Or.inl ⟨by kernel_rfl, fun w1 hSw => by clear hHeld; obtain ⟨⟨m0, m1⟩, cx⟩ := HC.out _ hSw; clear hSw; go_simp⟩) hHeld ?_
          try simp only [Act.put]
          try simp only [List.getElem_toArray]
          try simp only [List.getElem_cons_succ]
          try simp only [List.getElem_cons_zero]
          try simp only [List.setIfInBounds_toArray]
          try simp only [List.set_cons_succ, List.set_cons_zero]
          refine wpAnyH_take (i := 2) (v := .pointer (some ⟨g, j * 2, none⟩)) rfl (by kernel_rfl) (by kernel_rfl) (by kernel_rfl) (fun _ _ _ h => h) (Or.inl ⟨by kernel_rfl, fun w1 hSw => by clear hHeld; obtain ⟨⟨m0, m1⟩, cx⟩ := HC.out _ hSw; clear hSw; go_simp⟩) hHeld ?_
          try simp only [Act.put]
          try simp only [List.getElem_toArray]
          try simp only [List.getElem_cons_succ]
          try simp only [List.getElem_cons_zero]
          try simp only [List.setIfInBounds_toArray]
          try simp only [List.set_cons_succ, List.set_cons_zero]
          refine wpAnyH_take (i := 3) (v := .pointer (some ⟨g, j * 2, none⟩)) rfl (by kernel_rfl) (by kernel_rfl) (by kernel_rfl) (fun _ _ _ h => h) (Or.inl ⟨by kernel_rfl, fun w1 hSw => by clear hHeld; obtain ⟨⟨m0, m1⟩, cx⟩ := HC.out _ hSw; clear hSw; go_simp⟩) hHeld ?_
          try simp only [Act.put]
          try simp only [List.getElem_toArray]
          try simp only [List.getElem_cons_succ]
          try simp only [List.getElem_cons_zero]
          try simp only [List.setIfInBounds_toArray]
          try simp only [List.set_cons_succ, List.set_cons_zero]
          refine wpAnyH_take (i := 4) (v := .pointer (some ⟨s.b, 0, none⟩)) rfl (by kernel_rfl) (by kernel_rfl) (by kernel_rfl) (fun _ _ _ h => h) (Or.inl ⟨by kernel_rfl, fun w1 hSw => by clear hHeld; obtain ⟨⟨m0, m1⟩, cx⟩ := HC.out _ hSw; clear hSw; go_simp⟩) hHeld ?_
          try simp only [Act.put]
          try simp only [List.getElem_toArray]
          try simp only [List.getElem_cons_succ]
          try simp only [List.getElem_cons_zero]
          try simp only [List.setIfInBounds_toArray]
          try simp only [List.set_cons_succ, List.set_cons_zero]
          refine wpAnyH_take (i := 6) (v := .slice (some ⟨g, 0, none⟩) S.length cap) rfl (by kernel_rfl) (by kernel_rfl) (by kernel_rfl) (fun _ _ _ h => h) (Or.inl ⟨by kernel_rfl, fun w1 hSw => by clear hHeld; obtain ⟨⟨m0, m1⟩, cx⟩ := HC.out _ hSw; clear hSw; go_simp⟩) hHeld ?_
          try simp only [Act.put]
          try simp only [List.getElem_toArray]
          try simp only [List.getElem_cons_succ]
          try simp only [List.getElem_cons_zero]
          try simp only [List.setIfInBounds_toArray]
          try simp only [List.set_cons_succ, List.set_cons_zero]
          refine wpAnyH_take (i := 7) (v := .int .i64 (j : Int)) rfl (by kernel_rfl) (by kernel_rfl) (by kernel_rfl) (fun _ _ _ h => h) (Or.inl ⟨by kernel_rfl, fun w1 hSw => by clear hHeld; obtain ⟨⟨m0, m1⟩, cx⟩ := HC.out _ hSw; clear hSw; go_simp⟩) hHeld ?_
          try simp only [Act.put]
          try simp only [List.getElem_toArray]
          try simp only [List.getElem_cons_succ]
          try simp only [List.getElem_cons_zero]
          try simp only [List.setIfInBounds_toArray]
          try simp only [List.set_cons_succ, List.set_cons_zero]
          refine wpAnyH_take (i := 8) (v := .pointer (some ⟨g, j * 2, none⟩)) rfl (by kernel_rfl) (by kernel_rfl) (by kernel_rfl) (fun _ _ _ h => h) (Or.inl ⟨by kernel_rfl, fun w1 hSw => by clear hHeld; obtain ⟨⟨m0, m1⟩, cx⟩ := HC.out _ hSw; clear hSw; go_simp⟩) hHeld ?_
          try simp only [Act.put]
          try simp only [List.getElem_toArray]
          try simp only [List.getElem_cons_succ]
          try simp only [List.getElem_cons_zero]
          try simp only [List.setIfInBounds_toArray]
          try simp only [List.set_cons_succ, List.set_cons_zero]
          refine wpAnyH_take (i := 9) (v := .pointer (some ⟨g, j * 2 + 1, none⟩)) rfl (by kernel_rfl) (by kernel_rfl) (by kernel_rfl) (fun _ _ _ h => h) (Or.inl ⟨by kernel_rfl, fun w1 hSw => by clear hHeld; obtain ⟨⟨m0, m1⟩, cx⟩ := HC.out _ hSw; clear hSw; go_simp⟩) hHeld ?_
          try simp only [Act.put]
          try simp only [List.getElem_toArray]
          try simp only [List.getElem_cons_succ]
          try simp only [List.getElem_cons_zero]
          try simp only [List.setIfInBounds_toArray]
          try simp only [List.set_cons_succ, List.set_cons_zero]
          refine wpAnyH_take (i := 10) (v := .pointer (some ⟨s.x, 0, none⟩)) rfl (by kernel_rfl) (by kernel_rfl) (by kernel_rfl) (fun _ _ _ h => h) (Or.inl ⟨by kernel_rfl, fun w1 hSw => by clear hHeld; obtain ⟨⟨m0, m1⟩, cx⟩ := HC.out _ hSw; clear hSw; go_simp⟩) hHeld ?_
          try simp only [Act.put]
          try simp only [List.getElem_toArray]
          try simp only [List.getElem_cons_succ]
          try simp only [List.getElem_cons_zero]
          try simp only [List.setIfInBounds_toArray]
          try simp only [List.set_cons_succ, List.set_cons_zero]
          refine wpAnyH_take (i := 11) (v := .pointer (some ⟨s.x, 0, none⟩)) rfl (by kernel_rfl) (by kernel_rfl) (by kernel_rfl) (fun _ _ _ h => h) (Or.inl ⟨by kernel_rfl, fun w1 hSw => by clear hHeld; obtain ⟨⟨m0, m1⟩, cx⟩ := HC.out _ hSw; clear hSw; go_simp⟩) hHeld ?_
          try simp only [Act.put]
          try simp only [List.getElem_toArray]
          try simp only [List.getElem_cons_succ]
          try simp only [List.getElem_cons_zero]
          try simp only [List.setIfInBounds_toArray]
          try simp only [List.set_cons_succ, List.set_cons_zero]
          refine wpAnyH_take (i := 12) (v := .pointer (some ⟨s.x, 1, none⟩)) rfl (by kernel_rfl) (by kernel_rfl) (by kernel_rfl) (fun _ _ _ h => h) (Or.inl ⟨by kernel_rfl, fun w1 hSw => by clear hHeld; obtain ⟨⟨m0, m1⟩, cx⟩ := HC.out _ hSw; clear hSw; go_simp⟩) hHeld ?_
          try simp only [Act.put]
          try simp only [List.getElem_toArray]
          try simp only [List.getElem_cons_succ]
          try simp only [List.getElem_cons_zero]
          try simp only [List.setIfInBounds_toArray]
          try simp only [List.set_cons_succ, List.set_cons_zero]
          refine wpAnyH_take (i := 13) (v := .slice s.ad s.L.length s.cap) rfl (by kernel_rfl) (by kernel_rfl) (by kernel_rfl) (fun _ _ _ h => h) (Or.inl ⟨by kernel_rfl, fun w1 hSw => by clear hHeld; obtain ⟨⟨m0, m1⟩, cx⟩ := HC.out _ hSw; clear hSw; go_simp⟩) hHeld ?_
          try simp only [Act.put]
          try simp only [List.getElem_toArray]
          try simp only [List.getElem_cons_succ]
          try simp only [List.getElem_cons_zero]
          try simp only [List.setIfInBounds_toArray]
          try simp only [List.set_cons_succ, List.set_cons_zero]
          refine wpAnyH_ready (rs := [5]) (by kernel_rfl) (by simp) ?_
          refine AllReadyH.cons rfl (fun K hK => ?_) AllReadyH.nil
          go_simp
          refine (qrows_any (HPX.out.below hHeld).q hl).mono ?_
          rintro e w5 ⟨rfl, ho5, hB5⟩
          have HR5 := hide (Rs.own0 ho5)
          refine hK.out _ _ (Below.trans hHeld (hB5.mono hHeld.size)) (fun hHeld => ?_)
          clear hK K
          try simp only [Act.put]
          try simp only [List.getElem_toArray]
          try simp only [List.getElem_cons_succ]
          try simp only [List.getElem_cons_zero]
          try simp only [List.setIfInBounds_toArray]
          try simp only [List.set_cons_succ, List.set_cons_zero]
          refine wpAnyH_ready (rs := [14]) (by kernel_rfl) (by simp) ?_
          refine AllReadyH.cons rfl (fun K hK => ?_) AllReadyH.nil
          go_simp
          refine (same_self HR5.out (HPX.out.below hHeld).x.rs (by omega)).mono ?_
          rintro e w6 ⟨rfl, hB6⟩
          refine hK.out _ _ (Below.trans hHeld (hB6.mono hHeld.size)) (fun hHeld => ?_)
          clear hK K
          try simp only [Act.put]
          try simp only [List.getElem_toArray]
          try simp only [List.getElem_cons_succ]
          try simp only [List.getElem_cons_zero]
          try simp only [List.setIfInBounds_toArray]
          try simp only [List.set_cons_succ, List.set_cons_zero]
          refine wpAnyH_take (i := 15) (v := .bool false) rfl (by kernel_rfl) (by kernel_rfl) (by kernel_rfl) (fun _ _ _ h => h) (Or.inl ⟨by kernel_rfl, fun w1 hSw => by clear hHeld; obtain ⟨⟨m0, m1⟩, cx⟩ := HC.out _ hSw; clear hSw; go_simp⟩) hHeld ?_
          try simp only [Act.put]
          try simp only [List.getElem_toArray]
          try simp only [List.getElem_cons_succ]
          try simp only [List.getElem_cons_zero]
          try simp only [List.setIfInBounds_toArray]
          try simp only [List.set_cons_succ, List.set_cons_zero]
          refine wpAnyH_take (i := 16) (v := .bool false) rfl (by kernel_rfl) (by kernel_rfl) (by kernel_rfl) (fun _ _ _ h => h) (Or.inl ⟨by kernel_rfl, fun w1 hSw => by clear hHeld; obtain ⟨⟨m0, m1⟩, cx⟩ := HC.out _ hSw; clear hSw; go_simp⟩) hHeld ?_
          try simp only [Act.put]
          try simp only [List.getElem_toArray]
          try simp only [List.getElem_cons_succ]
          try simp only [List.getElem_cons_zero]
          try simp only [List.setIfInBounds_toArray]
          try simp only [List.set_cons_succ, List.set_cons_zero]
          refine wpAnyH_take (i := 17) (v := .slice (some ⟨g, 0, none⟩) S.length cap) rfl (by kernel_rfl) (by kernel_rfl) (by kernel_rfl) (fun _ _ _ h => h) (Or.inl ⟨by kernel_rfl, fun w1 hSw => by clear hHeld; obtain ⟨⟨m0, m1⟩, cx⟩ := HC.out _ hSw; clear hSw; go_simp⟩) hHeld ?_
          try simp only [Act.put]
          try simp only [List.getElem_toArray]
          try simp only [List.getElem_cons_succ]
          try simp only [List.getElem_cons_zero]
          try simp only [List.setIfInBounds_toArray]
          try simp only [List.set_cons_succ, List.set_cons_zero]
          refine wpAnyH_take (i := 18) (v := .int .i64 (j : Int)) rfl (by kernel_rfl) (by kernel_rfl) (by kernel_rfl) (fun _ _ _ h => h) (Or.inl ⟨by kernel_rfl, fun w1 hSw => by clear hHeld; obtain ⟨⟨m0, m1⟩, cx⟩ := HC.out _ hSw; clear hSw; go_simp⟩) hHeld ?_
          try simp only [Act.put]
          try simp only [List.getElem_toArray]
          try simp only [List.getElem_cons_succ]
          try simp only [List.getElem_cons_zero]
          try simp only [List.setIfInBounds_toArray]
          try simp only [List.set_cons_succ, List.set_cons_zero]
          refine wpAnyH_take (i := 19) (v := .pointer (some ⟨g, j * 2, none⟩)) rfl (by kernel_rfl) (by kernel_rfl) (by kernel_rfl) (fun _ _ _ h => h) (Or.inl ⟨by kernel_rfl, fun w1 hSw => by clear hHeld; obtain ⟨⟨m0, m1⟩, cx⟩ := HC.out _ hSw; clear hSw; go_simp⟩) hHeld ?_
          try simp only [Act.put]
          try simp only [List.getElem_toArray]
          try simp only [List.getElem_cons_succ]
          try simp only [List.getElem_cons_zero]
          try simp only [List.setIfInBounds_toArray]
          try simp only [List.set_cons_succ, List.set_cons_zero]
          refine wpAnyH_take (i := 20) (v := .pointer (some ⟨g, j * 2, none⟩)) rfl (by kernel_rfl) (by kernel_rfl) (by kernel_rfl) (fun _ _ _ h => h) (Or.inl ⟨by kernel_rfl, fun w1 hSw => by clear hHeld; obtain ⟨⟨m0, m1⟩, cx⟩ := HC.out _ hSw; clear hSw; go_simp⟩) hHeld ?_
          try simp only [Act.put]
          try simp only [List.getElem_toArray]
          try simp only [List.getElem_cons_succ]
          try simp only [List.getElem_cons_zero]
          try simp only [List.setIfInBounds_toArray]
          try simp only [List.set_cons_succ, List.set_cons_zero]
          refine wpAnyH_take (i := 21) (v := .pointer (some ⟨s.b, 0, none⟩)) rfl (by kernel_rfl) (by kernel_rfl) (by kernel_rfl) (fun _ _ _ h => h) (Or.inl ⟨by kernel_rfl, fun w1 hSw => by clear hHeld; obtain ⟨⟨m0, m1⟩, cx⟩ := HC.out _ hSw; clear hSw; go_simp⟩) hHeld ?_
          try simp only [Act.put]
          try simp only [List.getElem_toArray]
          try simp only [List.getElem_cons_succ]
          try simp only [List.getElem_cons_zero]
          try simp only [List.setIfInBounds_toArray]
          try simp only [List.set_cons_succ, List.set_cons_zero]
          refine wpAnyH_take (i := 23) (v := .slice (some ⟨g, 0, none⟩) S.length cap) rfl (by kernel_rfl) (by kernel_rfl) (by kernel_rfl) (fun _ _ _ h => h) (Or.inl ⟨by kernel_rfl, fun w1 hSw => by clear hHeld; obtain ⟨⟨m0, m1⟩, cx⟩ := HC.out _ hSw; clear hSw; go_simp⟩) hHeld ?_
          try simp only [Act.put]
          try simp only [List.getElem_toArray]
          try simp only [List.getElem_cons_succ]
          try simp only [List.getElem_cons_zero]
          try simp only [List.setIfInBounds_toArray]
          try simp only [List.set_cons_succ, List.set_cons_zero]
          refine wpAnyH_take (i := 24) (v := .int .i64 (j : Int)) rfl (by kernel_rfl) (by kernel_rfl) (by kernel_rfl) (fun _ _ _ h => h) (Or.inl ⟨by kernel_rfl, fun w1 hSw => by clear hHeld; obtain ⟨⟨m0, m1⟩, cx⟩ := HC.out _ hSw; clear hSw; go_simp⟩) hHeld ?_
          try simp only [Act.put]
          try simp only [List.getElem_toArray]
          try simp only [List.getElem_cons_succ]
          try simp only [List.getElem_cons_zero]
          try simp only [List.setIfInBounds_toArray]
          try simp only [List.set_cons_succ, List.set_cons_zero]
          refine wpAnyH_take (i := 25) (v := .pointer (some ⟨g, j * 2, none⟩)) rfl (by kernel_rfl) (by kernel_rfl) (by kernel_rfl) (fun _ _ _ h => h) (Or.inl ⟨by kernel_rfl, fun w1 hSw => by clear hHeld; obtain ⟨⟨m0, m1⟩, cx⟩ := HC.out _ hSw; clear hSw; go_simp⟩) hHeld ?_
          try simp only [Act.put]
          try simp only [List.getElem_toArray]
          try simp only [List.getElem_cons_succ]
          try simp only [List.getElem_cons_zero]
          try simp only [List.setIfInBounds_toArray]
          try simp only [List.set_cons_succ, List.set_cons_zero]
          refine wpAnyH_take (i := 26) (v := .pointer (some ⟨g, j * 2 + 1, none⟩)) rfl (by kernel_rfl) (by kernel_rfl) (by kernel_rfl) (fun _ _ _ h => h) (Or.inl ⟨by kernel_rfl, fun w1 hSw => by clear hHeld; obtain ⟨⟨m0, m1⟩, cx⟩ := HC.out _ hSw; clear hSw; go_simp⟩) hHeld ?_
          try simp only [Act.put]
          try simp only [List.getElem_toArray]
          try simp only [List.getElem_cons_succ]
          try simp only [List.getElem_cons_zero]
          try simp only [List.setIfInBounds_toArray]
          try simp only [List.set_cons_succ, List.set_cons_zero]
          refine wpAnyH_take (i := 27) (v := .pointer (some ⟨s.x, 0, none⟩)) rfl (by kernel_rfl) (by kernel_rfl) (by kernel_rfl) (fun _ _ _ h => h) (Or.inl ⟨by kernel_rfl, fun w1 hSw => by clear hHeld; obtain ⟨⟨m0, m1⟩, cx⟩ := HC.out _ hSw; clear hSw; go_simp⟩) hHeld ?_
          try simp only [Act.put]
          try simp only [List.getElem_toArray]
          try simp only [List.getElem_cons_succ]
          try simp only [List.getElem_cons_zero]
          try simp only [List.setIfInBounds_toArray]
          try simp only [List.set_cons_succ, List.set_cons_zero]
          refine wpAnyH_ready (rs := [22]) (by kernel_rfl) (by simp) ?_
          refine AllReadyH.cons rfl (fun K hK => ?_) AllReadyH.nil
          go_simp
          refine (qhead_any (HPX.out.below hHeld).q hl).mono ?_
          rintro e w2q ⟨rfl, hB2q⟩
          refine hK.out _ _ (Below.trans hHeld (hB2q.mono hHeld.size)) (fun hHeld => ?_)
          clear hK K
          try simp only [Act.put]
          try simp only [List.getElem_toArray]
          try simp only [List.getElem_cons_succ]
          try simp only [List.getElem_cons_zero]
          try simp only [List.setIfInBounds_toArray]
          try simp only [List.set_cons_succ, List.set_cons_zero]
          refine wpAnyH_ready (rs := [28]) (by kernel_rfl) (by simp) ?_
          refine AllReadyH.cons rfl (fun K hK => ?_) AllReadyH.nil
          go_simp
          refine (rhead_any (HPX.out.below hHeld).x HPX.out.ok).mono ?_
          rintro e w7 ⟨rfl, rfl⟩
          refine hK.out _ _ (hHeld) (fun hHeld => ?_)
          clear hK K
          try simp only [Act.put]
          try simp only [List.getElem_toArray]
          try simp only [List.getElem_cons_succ]
          try simp only [List.getElem_cons_zero]
          try simp only [List.setIfInBounds_toArray]
          try simp only [List.set_cons_succ, List.set_cons_zero]
          refine wpAnyH_take (i := 29) (v := .bool false) rfl (by kernel_rfl) (by kernel_rfl) (by kernel_rfl) (fun _ _ _ h => h) (Or.inl ⟨by kernel_rfl, fun w1 hSw => by clear hHeld; obtain ⟨⟨m0, m1⟩, cx⟩ := HC.out _ hSw; clear hSw; go_simp⟩) hHeld ?_
          try simp only [Act.put]
          try simp only [List.getElem_toArray]
          try simp only [List.getElem_cons_succ]
          try simp only [List.getElem_cons_zero]
          try simp only [List.setIfInBounds_toArray]
          try simp only [List.set_cons_succ, List.set_cons_zero]
          refine wpAnyH_take (i := 30) (v := .bool false) rfl (by kernel_rfl) (by kernel_rfl) (by kernel_rfl) (fun _ _ _ h => h) (Or.inl ⟨by kernel_rfl, fun w1 hSw => by clear hHeld; obtain ⟨⟨m0, m1⟩, cx⟩ := HC.out _ hSw; clear hSw; go_simp⟩) hHeld ?_
          try simp only [Act.put]
          try simp only [List.getElem_toArray]
          try simp only [List.getElem_cons_succ]
          try simp only [List.getElem_cons_zero]
          try simp only [List.setIfInBounds_toArray]
          try simp only [List.set_cons_succ, List.set_cons_zero]
          refine wpAnyH_done (by kernel_rfl) ?_ _
          have HM8 := hide (HM.out.below hHeld)
          have HB8 := hide (HB.out.trans (hHeld.mono hBr))
          clear hHeld
          go_wp2_with fail
          exact ⟨⟨j + 1, by go_num, by omega, HM8, HB8⟩, by simp [intOf]; omega⟩
        · have hjI : ¬ (j : Int) < (S.length : Int) := by omega
          go_wp2_with fail
          go_ret
          exact ⟨rfl, HB.out⟩
end Go.Proofs.Ytkchddphmkgilaa
