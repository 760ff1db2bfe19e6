import Derived.Test.YtjpcghkdedldiaaLsDa
namespace Go.Proofs.Ytjpcghkdedldiaa
open Go.RowKit

theorem pcell {w : World} {P b x : Nat} (h : w.heap[P]? = some (pobj b x)) : w.cell? ⟨P, 0, none⟩ = some (.pointer (some ⟨b, 0, none⟩)) ∧ w.cell? ⟨P, 1, none⟩ = some (.pointer (some ⟨x, 0, none⟩)) := by simp [World.cell?, h]

set_option maxRecDepth 100000 in
set_option maxHeartbeats 8000000 in
theorem leaseDoes_walk {w : World} {T : Int} {ad : Option Addr} {cap0 ab ao : Nat} {l : List Lo} (_ : -9223372036854775808 ≤ T ∧ T ≤ 9223372036854775807) (hO : Sr w ad ab ao l) (hl : l.length ≤ 2932031007402) (hI : ∀ i (h : i < l.length), I6 (l[i]).on ∧ I6 (l[i]).job) :
    Calls Try.prog 3 #[.int .i64 T, .slice ad l.length cap0] w fun e w' => e = .returned (.bool true) ∧ Below w.heap.size w w' := by
  by_cases hT : 1 ≤ T ∧ T ≤ 256
  · obtain ⟨h1, h2⟩ := hT
    obtain ⟨iP, hiP, zP0, zP1, zP2⟩ := info_parts Try.infoP
    have HO := hide hO
    have HI := hide hI
    have HN := hide (new_ok h1 h2 w)
    have HX := hide (fun W => xnew_yes h1 h2 W)
    clear hO h1 h2 hI
    go_enter Try.func3, Try.ntmps3
    go_wp2_with fail
    refine HN.out.mono ?_
    rintro e w1 ⟨rfl, ht1, hb1⟩
    have HT1 := hide ht1
    have HB1 := hide hb1
    clear ht1 hb1 HN
    go_wp2_with fail
    refine (HX.out w1).mono ?_
    rintro e w2 ⟨rfl, ht2, hb2⟩
    have START : Hid (Mem w T (.slice (some ⟨w2.heap.size, 0, none⟩) 1 1) [⟨w.heap.size + 1, w.heap.size, w1.heap.size, []⟩] (w2.alloc (pobj (w.heap.size + 1) w1.heap.size))) := by
      have s1 := HB1.out.size
      have s2 := hb2.size
      have hb3 := hb2.alloc hb2.size (pobj (w.heap.size + 1) w1.heap.size)
      refine Mem.one (below_of HB1.out hb3) ⟨HT1.out.below hb3, ⟨_, _, _, ht2.below (below_alloc w2 _)⟩⟩ ⟨Nat.le_refl _, by show _ ≤ w1.heap.size; omega⟩ ?_
      exact World.ownsRow_lit (base := w.heap.size) (e := 32) (size := 2) w2 #[.pointer (some ⟨w.heap.size + 1, 0, none⟩), .pointer (some ⟨w1.heap.size, 0, none⟩)] 1 (by omega) (by unfold maxLen; omega) rfl
    clear ht2 hb2 HX HT1 HB1
    go_wp2_with fail
    go_loopw [9, 10] (fun u t wr => ∃ (g cap i : Nat) (S : List Sc), u = .slice (some ⟨g, 0, none⟩) S.length cap ∧ t = .int .i64 (i : Int) ∧ i ≤ l.length ∧ 1 ≤ S.length ∧ S.length ≤ 8 ∧ Hid (Mem w T (.slice (some ⟨g, 0, none⟩) S.length cap) S wr)) (fun _ t _ => (l.length - (intOf t).toNat))
    case atStart => exact ⟨_, _, 0, [⟨w.heap.size + 1, w.heap.size, w1.heap.size, []⟩], rfl, rfl, Nat.zero_le _, Nat.le_refl _, (by decide : 1 ≤ 8), START⟩
    case round =>
      clear START
      obtain ⟨g, cap, i, S, rfl, rfl, hi, hL1, hL8, HM⟩ := hrel
      by_cases hil : i < l.length
      · have hii : (i : Int) < (l.length : Int) := by omega
        have hat := HO.out.at_ (by omega)
        subst hat
        have KO := hide (fun V (hV : Below w.heap.size w V) => (HO.out.below hV).six hil)
        have hbo := (HI.out i hil).1
        have hbj := (HI.out i hil).2
        generalize l[i] = o at *
        obtain ⟨g0, g1, g2, g3, g4, g5⟩ := KO.out _ HM.out.low
        go_wp2_with fail
        refine (place_any (m := S.length) (by omega) (by omega) hbo).mono ?_
        rintro e wr' ⟨rfl, e1⟩
        obtain rfl := e1
        have hpS : pl o.on S.length < S.length := pl_lt (by omega)
        generalize pl o.on S.length = p at *
        obtain ⟨s, hs⟩ : ∃ s, S[p]? = some s := ⟨_, List.getElem?_eq_getElem hpS⟩
        have hpI : (p : Int) < (S.length : Int) := by omega
        obtain ⟨m0, m1⟩ := HM.out.cell hs
        have HM2 := hide (HM.out.below (below_alloc wr' (pobj s.b s.x)))
        have HP2 := hide (heap_alloc_new wr' (pobj s.b s.x))
        have HLT : Hid (s.m < wr'.heap.size ∧ s.x < wr'.heap.size) := ⟨(HM.out.pr p s hs).ta.tb.map.lt, (HM.out.pr p s hs).xa.lt⟩
        have HS := hide hs
        clear g0 g1 g2 g3 g4 g5 HM hs
        go_upto_region 6 with fail
        clear m0 m1
        generalize wr'.alloc (pobj s.b s.x) = W2 at *
        generalize wr'.heap.size = P at *
        have HM3 := hide (HM2.out.drewN 1)
        have HP3 : Hid (W2.drew.heap[P]? = some (pobj s.b s.x)) := HP2.out
        have HA := hide (answers_any (w := W2.drew) (HM2.out.pr p s HS.out).drew o hbj)
        clear HM2 HP2
        refine wp_region_held_drew (S := (fun w' => w'.heap[P]? = some (pobj s.b s.x) ∧ Below w.heap.size w w')) (by kernel_rfl) (⟨HP3.out, HM3.out.low⟩) (fun hHeld => ?_)
        refine wpAnyH_take (i := 0) (v := (.agg #[.pointer (some ⟨s.b, 0, none⟩), .pointer (some ⟨s.x, 0, none⟩)])) rfl (by kernel_rfl) (by kernel_rfl) (by kernel_rfl) (fun _ _ _ h => h) (Or.inl ⟨by kernel_rfl, fun w1 hSw => by clear hHeld; obtain ⟨p0, p1⟩ := pcell hSw.1; obtain ⟨g0, g1, g2, g3, g4, g5⟩ := KO.out _ hSw.2; clear hSw; go_simp⟩) hHeld ?_
        simp only [Act.put, List.setIfInBounds_toArray]
        refine wpAnyH_take (i := 1) (v := (.slice (some ⟨ab, ao, none⟩) l.length cap0)) rfl (by kernel_rfl) (by kernel_rfl) (by kernel_rfl) (fun _ _ _ h => h) (Or.inl ⟨by kernel_rfl, fun w1 hSw => by clear hHeld; obtain ⟨p0, p1⟩ := pcell hSw.1; obtain ⟨g0, g1, g2, g3, g4, g5⟩ := KO.out _ hSw.2; clear hSw; go_simp⟩) hHeld ?_
        try simp only [Act.put]
        refine wpAnyH_take (i := 2) (v := (.int .i64 (i : Int))) rfl (by kernel_rfl) (by kernel_rfl) (by kernel_rfl) (fun _ _ _ h => h) (Or.inl ⟨by kernel_rfl, fun w1 hSw => by clear hHeld; obtain ⟨p0, p1⟩ := pcell hSw.1; obtain ⟨g0, g1, g2, g3, g4, g5⟩ := KO.out _ hSw.2; clear hSw; go_simp⟩) hHeld ?_
        try simp only [Act.put]
        refine wpAnyH_take (i := 3) (v := (.pointer (some ⟨ab, ao + i * 6, none⟩))) rfl (by kernel_rfl) (by kernel_rfl) (by kernel_rfl) (fun _ _ _ h => h) (Or.inl ⟨by kernel_rfl, fun w1 hSw => by clear hHeld; obtain ⟨p0, p1⟩ := pcell hSw.1; obtain ⟨g0, g1, g2, g3, g4, g5⟩ := KO.out _ hSw.2; clear hSw; go_simp⟩) hHeld ?_
        try simp only [Act.put]
        refine wpAnyH_take (i := 4) (v := o.val) rfl (by kernel_rfl) (by kernel_rfl) (by kernel_rfl) (fun _ _ _ h => h) (Or.inl ⟨by kernel_rfl, fun w1 hSw => by clear hHeld; obtain ⟨p0, p1⟩ := pcell hSw.1; obtain ⟨g0, g1, g2, g3, g4, g5⟩ := KO.out _ hSw.2; clear hSw; go_simp⟩) hHeld ?_
        try simp only [Act.put]
        refine wpAnyH_ready (rs := [5]) (by kernel_rfl) (by simp) ?_
        refine AllReadyH.cons rfl (fun K hK => ?_) AllReadyH.nil
        go_simp
        refine HA.out.mono ?_
        rintro e w5 ⟨rfl, hp5, ht5⟩
        have HM5 := hide (HM3.out.step HS.out hp5 ht5)
        have HP5 : Hid (w5.heap[P]? = some (pobj s.b s.x)) := (ht5.block P (lt_of_block HP3.out) (by have := HLT.out.1; omega) (by have := HLT.out.2; omega)).trans HP3.out
        clear hp5 ht5 HM3 HP3 HA
        refine hK.out _ _ (⟨HP5.out, HM5.out.low⟩) (fun hHeld => ?_)
        clear hK K
        refine wpAnyH_take (i := 6) (v := (.bool true)) rfl (by kernel_rfl) (by kernel_rfl) (by kernel_rfl) (fun _ _ _ h => h) (Or.inl ⟨by kernel_rfl, fun w1 hSw => by clear hHeld; obtain ⟨p0, p1⟩ := pcell hSw.1; obtain ⟨g0, g1, g2, g3, g4, g5⟩ := KO.out _ hSw.2; clear hSw; go_simp⟩) hHeld ?_
        try simp only [Act.put]
        refine wpAnyH_done (by kernel_rfl) ?_ _
        clear hHeld
        try simp only [List.getElem_toArray]
        try simp only [List.getElem_cons_succ]
        try simp only [List.getElem_cons_zero]
        go_frame
        have hs5 : (S.set p { s with L := dsL T s.L o })[p]? = some { s with L := dsL T s.L o } := List.getElem?_set_self hpS
        have hl5 : (S.set p { s with L := dsL T s.L o }).length = S.length := List.length_set
        clear HS HLT
        generalize dsL T s.L o = L5 at *
        generalize S.set p { s with L := L5 } = S5 at *
        rw [← hl5] at HM5 hL1 hL8 ⊢
        have HS5 := hide hs5
        clear hs5 hl5 hpS hpI
        obtain ⟨p0, p1⟩ := pcell HP5.out
        obtain ⟨g0, g1, g2, g3, g4, g5⟩ := KO.out _ HM5.out.low
        by_cases hk : o.kind = 6
        · have bk : (o.kind == 6) = true := by simpa using hk
          by_cases h8 : S5.length < 8
          · have d8 : decide ((S5.length : Int) < 8) = true := by simp; omega
            have HQ := hide (HM5.out.pr p _ HS5.out)
            go_wp2_with fail
            refine (clone_any HQ.out.ta.tb).mono ?_
            rintro e w6 ⟨rfl, hq6, hB6⟩
            have HQ6 := hide hq6
            have HB6 := hide hB6
            obtain ⟨p0, p1⟩ := pcell ((hB6.block _ (lt_of_block HP5.out)).trans HP5.out)
            have HXQ := hide (HQ.out.xa.below hB6)
            clear hq6 hB6 g0 g1 g2 g3 g4 g5
            go_wp2_with fail
            refine (xcopy_ok HXQ.out).mono ?_
            rintro e w7 ⟨rfl, hX7, hB7⟩
            have HX7 := hide hX7
            have HB7 := hide hB7
            have HROW := hide (own_below (own_below HM5.out.row HB6.out) hB7)
            have HS7 : Hid (w.heap.size ≤ w7.heap.size) := hide (by have := HM5.out.low.size; have := HB6.out.size; have := hB7.size; omega)
            clear hX7 hB7 p0 p1 HXQ HQ
            go_upto_region 4 with (at_builtin; refine wpList_append_lies _ rfl _ _ 33 rfl w.heap.size 32 iP (.agg #[.pointer none, .pointer none]) 2 16 Try.underlying33 hiP zP0 zP1 zP2 rfl (by decide) (.slice (some ⟨g, 0, none⟩) S5.length cap) S5.length (pcs S5) rfl (own_below HROW.out (below_alloc w7 _)) ⟨w7.heap.size, 0, none⟩ 1 1 [.pointer (some ⟨w5.heap.size + 1, 0, none⟩), .pointer (some ⟨w6.heap.size, 0, none⟩)] rfl rfl (World.news_of_block (cs := #[.pointer (some ⟨w5.heap.size + 1, 0, none⟩), .pointer (some ⟨w6.heap.size, 0, none⟩)]) (t := 32) (fr := (0, 0)) (heap_alloc_new w7 _)) (by intro u hu; simp at hu; rcases hu with rfl | rfl <;> rfl) (by decide) (by unfold maxLen; omega) (by omega) (by rw [World.size_alloc]; have := HS7.out; omega) (w7.heap.size + 1) (by rw [World.size_alloc]) ?_; intro g9 cap9 w9 hown9 hgrow9 hat9 hlt9)
            have HP1 := hide (HM5.out.push2 hL1 HS5.out HQ6.out HB6.out HX7.out HB7.out hown9 hgrow9)
            clear hown9 hgrow9 hat9 hlt9
            go_wp2_with fail
            refine ⟨⟨g9, cap9, i + 1, S5 ++ [⟨w5.heap.size + 1, w5.heap.size, w6.heap.size, L5⟩], by rw [List.length_append]; rfl, by go_num, by omega, by rw [List.length_append]; simp, by rw [List.length_append, List.length_singleton]; omega, ?_⟩, by simp [intOf]; omega⟩
            rw [List.length_append]; exact HP1
          · have d8 : decide ((S5.length : Int) < 8) = false := by simp; omega
            go_wp2_with fail
            exact ⟨⟨g, cap, i + 1, S5, rfl, by go_num, by omega, hL1, hL8, HM5⟩, by simp [intOf]; omega⟩
        · have bk : (o.kind == 6) = false := by simpa using hk
          go_wp2_with fail
          exact ⟨⟨g, cap, i + 1, S5, rfl, by go_num, by omega, hL1, hL8, HM5⟩, by simp [intOf]; omega⟩
      · have hii : ¬ (i : Int) < (l.length : Int) := by omega
        clear hi hil
        go_wp2_with fail
        go_loopw [14] (fun u wx => ∃ j : Nat, u = .int .i64 (j : Int) ∧ j ≤ S.length ∧ Hid (Mem w T (.slice (some ⟨g, 0, none⟩) S.length cap) S wx)) (fun u _ => (S.length - (intOf u).toNat))
        case atStart => exact ⟨0, rfl, Nat.zero_le _, HM⟩
        case round =>
          clear HM hii
          obtain ⟨j, rfl, hj, HM⟩ := hrel
          by_cases hjl : j < S.length
          · obtain ⟨s, hs⟩ : ∃ s, S[j]? = some s := ⟨_, List.getElem?_eq_getElem hjl⟩
            have hjI : (j : Int) < (S.length : Int) := by omega
            have HQ := hide (HM.out.pr j s hs)
            have HS := hide hs
            obtain ⟨m0, m1⟩ := HM.out.cell hs
            clear hs
            go_wp2_with fail
            refine (lall_any HQ.out.ta.tb HQ.out.ta.ok.len12 99).mono ?_
            rintro e w2 ⟨v2, rfl, ho2, hb2⟩
            have hl8 := HQ.out.ta.ok.len
            rw [List.take_of_length_le (by omega)] at ho2
            obtain ⟨ad2, cap2, hv2⟩ := own_slice ho2
            subst hv2
            obtain ⟨ab2, hR2, _⟩ := Rs.own ho2
            have HR2 := hide hR2
            have HM2 := hide (HM.out.below hb2)
            obtain ⟨adX, abX, capX, hX⟩ := HQ.out.xa.below hb2
            have HX2 := hide hX
            have cx := hX.c1
            obtain ⟨m0, m1⟩ := HM2.out.cell HS.out
            clear ho2 hb2 hR2 HM hX HQ
            go_wp2_with fail
            refine (same_self HR2.out HX2.out.rs (by omega)).mono ?_
            rintro e w3 ⟨rfl, hb3⟩
            have HM3 := hide (HM2.out.below hb3)
            clear hb3 HM2 HR2 HX2 cx m0 m1 HS
            go_wp2_with fail
            exact ⟨⟨j + 1, by go_num, by omega, HM3⟩, by simp [intOf]; omega⟩
          · have hjI : ¬ (j : Int) < (S.length : Int) := by omega
            go_wp2_with fail
            refine (fixed_any _).mono ?_
            rintro e w6 ⟨rfl, hb6⟩
            go_wp2_with fail
            go_ret
            exact ⟨rfl, below_of HM.out.low hb6⟩
  · have HN := hide (new_no hT w)
    have HX := hide (xnew_no hT w)
    clear hO hT hI
    go_enter Try.func3, Try.ntmps3
    go_wp2_with fail
    refine HN.out.mono ?_
    rintro e w1 ⟨rfl, rfl⟩
    clear HN
    go_wp2_with fail
    refine HX.out.mono ?_
    rintro e w1 ⟨rfl, rfl⟩
    clear HX
    go_wp2_with fail
    refine (fixed_any _).mono ?_
    rintro e w6 ⟨rfl, hb6⟩
    go_wp2_with fail
    go_ret
    exact ⟨rfl, hb6⟩
end Go.Proofs.Ytjpcghkdedldiaa
