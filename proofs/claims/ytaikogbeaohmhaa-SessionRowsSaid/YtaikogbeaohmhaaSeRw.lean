import Derived.Test.YtaikogbeaohmhaaSeR
namespace Go.Proofs.Ytaikogbeaohmhaa
open Go.RowKit

/-- what is taken from memory, in a call of both -/
theorem blocks_cells {w V : World} {gl gm ab : Nat} (hS : V.heap[gl]? = w.heap[gl]? ∧ V.heap[gm]? = w.heap[gm]? ∧ V.heap[ab]? = w.heap[ab]?) : (∀ j, V.cell? ⟨gl, j, none⟩ = w.cell? ⟨gl, j, none⟩) ∧ (∀ j, V.cell? ⟨gm, j, none⟩ = w.cell? ⟨gm, j, none⟩) ∧ ∀ j, V.cell? ⟨ab, j, none⟩ = w.cell? ⟨ab, j, none⟩ :=
  ⟨fun _ => World.cell?_of_block hS.1, fun _ => World.cell?_of_block hS.2.1, fun _ => World.cell?_of_block hS.2.2⟩
set_option maxHeartbeats 8000000 in
set_option maxRecDepth 8000 in
theorem sessionRows_walk {w : World} {x : Int} (_hx : -9223372036854775808 ≤ x ∧ x ≤ 9223372036854775807) {ad : Option Addr} {ab ao cap : Nat} {Q : List Rw} (hQ : Sr Rw.cs 7 w ad ab ao Q) (hQl : Q.length ≤ 2199023255488) (hQb : ∀ i (h : i < Q.length), I6 (Q[i]).on ∧ I6 (Q[i]).sl ∧ I6 (Q[i]).li ∧ I6 (Q[i]).se ∧ I6 (Q[i]).nu) :
    Calls Try.prog 4 #[.int .i64 x, .slice ad Q.length cap] w fun e w' => e = .returned (.bool true) ∧ Below w.heap.size w w' := by
  have HQ := hide hQ
  have HQB := hide hQb
  clear hQ hQb _hx
  go_enter Try.func4, Try.ntmps4
  go_wp2_with fail
  refine (tnew_any w x).mono ?_
  rintro e w1 (⟨hno, rfl, hw⟩ | ⟨n, b1, g1, c1, rfl, hn1, hn8, rfl, hT1, hB1⟩)
  · subst hw
    go_wp2_with fail
    refine (rtnew_any _ x).mono ?_
    rintro e w2 (⟨_, rfl, hw⟩ | ⟨n, b1, g1, c1, rfl, hn1, hn8, _⟩)
    rotate_left
    · exact absurd ⟨by omega, by omega⟩ hno
    subst hw
    go_wp2_with fail
    refine (awake_any _).mono ?_
    rintro e w3 ⟨rfl, hB3⟩
    go_wp2_with fail
    go_ret
    exact ⟨rfl, hB3⟩
  have HT1 := hide hT1
  have HB1 := hide hB1
  clear hT1 hB1
  go_wp2_with fail
  refine (rtnew_any _ (n : Int)).mono ?_
  rintro e w2 (⟨hno, _⟩ | ⟨n', x1, y1, k1, hnn, _, _, rfl, hT2, hB2⟩)
  · exact absurd ⟨by omega, by omega⟩ hno
  obtain rfl : n = n' := by omega
  have HP : Hid (Pt w.heap.size w2 ⟨b1, g1, c1, newD n, x1, y1, k1, newE n⟩) := hide ⟨HT1.out.below hB2, hT2.wide HB1.out.size, by have h1 := HT1.out.gl; have h2 := hT2.gB; show g1 ≠ y1; omega, newD_ok n, newE_ok n, like_new n, by show 0 < (newD n).length; rw [newD_len]; omega⟩
  have HB := hide (HB1.out.trans (hB2.mono HB1.out.size))
  clear hnn hT2 hB2 HT1 HB1
  go_wp2_with fail
  refine (awake_any _).mono ?_
  rintro e w3 ⟨rfl, hB3⟩
  have HP := hide (HP.out.below hB3)
  have HB := hide (HB.out.trans (hB3.mono HB.out.size))
  clear hB3
  generalize newD n = D0 at *
  generalize newE n = E0 at *
  have hbs := HB.out.size
  have HST : Hid (Mem w.heap.size ((w3.alloc (.cells #[.pointer (some ⟨b1, 0, none⟩)] 47)).alloc (.cells #[.pointer (some ⟨x1, 0, none⟩)] 50)) (.slice (some ⟨w3.heap.size, 0, none⟩) 1 1) (.slice (some ⟨w3.heap.size + 1, 0, none⟩) 1 1) [⟨b1, g1, c1, D0, x1, y1, k1, E0⟩] ∧ Below w.heap.size w ((w3.alloc (.cells #[.pointer (some ⟨b1, 0, none⟩)] 47)).alloc (.cells #[.pointer (some ⟨x1, 0, none⟩)] 50))) := hide (by
    have s1 := World.size_alloc w3 (.cells #[.pointer (some ⟨b1, 0, none⟩)] 47)
    have o1 := (World.ownsRow_lit (base := w.heap.size) (e := 47) (size := 1) w3 #[.pointer (some ⟨b1, 0, none⟩)] 1 hbs (by decide) rfl).alloc (.cells #[.pointer (some ⟨x1, 0, none⟩)] 50)
    have o2 := World.ownsRow_lit (base := w.heap.size) (e := 50) (size := 1) (w3.alloc (.cells #[.pointer (some ⟨b1, 0, none⟩)] 47)) #[.pointer (some ⟨x1, 0, none⟩)] 1 (by omega) (by decide) rfl
    rw [s1] at o2
    refine ⟨⟨o1, o2, ⟨fun i s hs => ?_, fun i j s t hs ht hij => ?_, fun i j s t hs ht => ?_⟩⟩, (HB.out.alloc hbs _).alloc (by omega) _⟩
    · match i, hs with
      | 0, hs => injection hs with hs; subst hs; exact (HP.out.below (below_alloc _ _)).below (below_alloc _ _)
    · match i, j, hs, ht with
      | 0, 0, _, _ => exact absurd rfl hij
    · match i, j, hs, ht with
      | 0, 0, hs, ht => injection hs with hs; injection ht with ht; subst hs; subst ht; exact HP.out.ne)
  clear HP HB hbs hn1 hn8
  go_wp2_with fail
  obtain ⟨B, hB⟩ : ∃ B, w.heap.size = B := ⟨_, rfl⟩
  have HBe := hide hB
  rw [hB] at HST
  clear hB
  go_loopw [9, 10, 11] (fun u t s wr => ∃ (gl cl gm cm i : Nat) (L : List Sc), u = .slice (some ⟨gl, 0, none⟩) L.length cl ∧ t = .slice (some ⟨gm, 0, none⟩) L.length cm ∧ s = .int .i64 (i : Int) ∧ i ≤ Q.length ∧ 1 ≤ L.length ∧ L.length ≤ i + 1 ∧ Hid (Mem B wr (.slice (some ⟨gl, 0, none⟩) L.length cl) (.slice (some ⟨gm, 0, none⟩) L.length cm) L) ∧ Hid (Below B w wr)) (fun _ _ s _ => Q.length - (intOf s).toNat)
  case atStart => exact ⟨_, _, _, _, 0, [⟨b1, g1, c1, D0, x1, y1, k1, E0⟩], rfl, rfl, rfl, Nat.zero_le _, Nat.le_refl _, Nat.le_refl _, hide HST.out.1, hide HST.out.2⟩
  case round =>
    clear HST
    obtain ⟨gl, cl, gm, cm, i, L, rfl, rfl, rfl, hi, hL1, hL2, HM, HB⟩ := hrel
    have hBr : B ≤ wr.heap.size := by have := HB.out.size; rw [HBe.out] at this; exact this
    by_cases hiq : i < Q.length
    · have hii : (i : Int) < (Q.length : Int) := by omega
      have hat := HQ.out.at_ (by omega)
      subst hat
      have hR := HQ.out.below (by decide) Rw.cs0 (show Below w.heap.size w wr by rw [HBe.out]; exact HB.out)
      obtain ⟨q0, q1, q2, q3, q4, q5, q6⟩ := hR.seven hiq
      have habB : ab < B := by rw [← HBe.out]; exact HQ.out.lt (by omega) (by decide) Rw.cs0
      have HBO := hide (HQB.out i hiq)
      clear hR
      generalize Q[i] = q at *
      have hbo := HBO.out.1
      unfold I6 at hbo
      have ht1 : q.on.tmod (L.length : Int) < (L.length : Int) := Int.tmod_lt_of_pos _ (by omega)
      have ht2 : -(L.length : Int) < q.on.tmod (L.length : Int) := Int.lt_tmod_of_pos _ (by omega)
      have hz : (L.length : Int) ≠ 0 := by omega
      have hz1 : (L.length : Int) ≠ -1 := by omega
      obtain ⟨t, ht⟩ : ∃ t, q.on.tmod (L.length : Int) = t := ⟨_, rfl⟩
      rw [ht] at ht1 ht2

      by_cases h0 : t < 0
      · skip
        have b0 : decide (t < 0) = true := decide_eq_true h0
        obtain ⟨p, hp⟩ : ∃ p : Nat, t + (L.length : Int) = (p : Int) := ⟨(t + (L.length : Int)).toNat, by omega⟩
        have hpl : p < L.length := by omega
        have hpI : (p : Int) < (L.length : Int) := by omega
        obtain ⟨s, hs⟩ : ∃ s, L[p]? = some s := ⟨_, List.getElem?_eq_getElem hpl⟩
        have HS := hide hs
        have m0 := HM.out.cl hs
        have m1 := HM.out.cm hs
        have HPt := hide (HM.out.kp.pt p s hs)
        clear hs
        by_cases hk5 : q.k = 5
        · have e5 : (q.k == 5) = true := by simpa using hk5
          clear hk5
          go_wp2_with fail
          refine (tclone_any HPt.out.t HPt.out.n1).mono ?_
          rintro e w3 ⟨b', g', c', rfl, hT3, hB3⟩
          have HM3 := hide (HM.out.below hB3)
          have HT3 := hide (hT3.wide hBr)
          have HB3 := hide (HB.out.trans (hB3.mono hBr))
          have HNB : Hid (∀ (i : Nat) (s : Sc), L[i]? = some s → s.g ≠ g' ∧ s.y ≠ g') := hide fun i s hs => by
            have h1 := (HM.out.kp.pt i s hs).t.gl
            have h2 := (HM.out.kp.pt i s hs).r.gl
            have h3 := hT3.gB
            exact ⟨by omega, by omega⟩
          have h23 := hB3.size
          clear hT3 hB3 m0 m1 q0 q1 q2 q3 q4 q5 q6 HM HB
          obtain ⟨iB, hiB, zB0, zB1, zB2⟩ := info_parts Try.infoPT
          obtain ⟨iX, hiX, zX0, zX1, zX2⟩ := info_parts Try.infoXT
          go_upto_region 17 with (at_builtin; refine wpList_append_lies _ rfl _ _ 53 rfl B 47 iB (.pointer none) 1 8 Try.underlying53 hiB zB0 zB1 zB2 rfl (by decide) (.slice (some ⟨gl, 0, none⟩) L.length cl) L.length (pbs L) rfl (HM3.out.rl.alloc _) ⟨w3.heap.size, 0, none⟩ 1 1 [.pointer (some ⟨b', 0, none⟩)] rfl rfl (one_new _ _ _) (by intro u hu; simp at hu; subst hu; rfl) (by decide) (by unfold maxLen; omega) (by omega) (by rw [World.size_alloc]; omega) _ rfl ?_; intro g4 cap4 w4 hown4 hgrow4 hat4 _)
          have HH4 := hide (HM3.out.half HT3.out HNB.out hown4 hgrow4)
          have HB4 := hide (below_grow HB3.out (by omega) hgrow4 (fun k hk => (HM3.out.rl.lt k hk).1))
          have hs4 : w3.heap.size ≤ w4.heap.size := by have := hgrow4.size; rw [World.size_alloc] at this; omega
          clear hown4 hgrow4 hat4 HM3 HB3 HT3 HNB
          have m4 : w4.cell? ⟨gm, p, none⟩ = some (.pointer (some ⟨s.x, 0, none⟩)) := by
            have e1 := HH4.out.rm.cells (g := gm) rfl p (.pointer (some ⟨s.x, 0, none⟩)) (by unfold pxs; rw [List.getElem?_map, HS.out]; rfl)
            rw [Addr.add_lit, Nat.zero_add] at e1
            exact e1
          have HX4 := hide (HH4.out.kp.pt p s HS.out)
          go_wp2_with fail
          refine (rclone_any HX4.out.r (by rw [← HX4.out.l.len]; exact HX4.out.n1)).mono ?_
          rintro e w5 ⟨x', y', k', rfl, hC5, hB5⟩
          have HNX : Hid (∀ (i : Nat) (s : Sc), L[i]? = some s → s.y ≠ y' ∧ s.g ≠ y') := hide fun i s hs => by
            have h1 := (HH4.out.kp.pt i s hs).t.gl
            have h2 := (HH4.out.kp.pt i s hs).r.gl
            have h3 := hC5.gB
            exact ⟨by omega, by omega⟩
          have HGY : Hid (g' ≠ y') := hide (by have h1 := HH4.out.t.gl; have h3 := hC5.gB; omega)
          have HH5 := hide (HH4.out.below hB5)
          have HB5 := hide (HB4.out.trans (hB5.mono (by omega)))
          have h45 := hB5.size
          have HC5 := hide (hC5.wide (show B ≤ w4.heap.size by omega))
          clear hC5 hB5 m4 HH4 HB4
          go_upto_region 18 with (at_builtin; refine wpList_append_lies _ rfl _ _ 54 rfl B 50 iX (.pointer none) 1 8 Try.underlying54 hiX zX0 zX1 zX2 rfl (by decide) (.slice (some ⟨gm, 0, none⟩) L.length cm) L.length (pxs L) rfl (HH5.out.rm.alloc _) ⟨w5.heap.size, 0, none⟩ 1 1 [.pointer (some ⟨x', 0, none⟩)] rfl rfl (one_new _ _ _) (by intro u hu; simp at hu; subst hu; rfl) (by decide) (by unfold maxLen; omega) (by omega) (by rw [World.size_alloc]; omega) _ rfl ?_; intro g6 cap6 w6 hown6 hgrow6 hat6 _)
          have HM6 := hide (HH5.out.whole HC5.out HNX.out HGY.out HX4.out.d HX4.out.e HX4.out.l HX4.out.n1 hown6 hgrow6)
          have HB6 := hide (below_grow HB5.out (by omega) hgrow6 (fun k hk => (HH5.out.rm.lt k hk).1))
          have m6 : w6.cell? ⟨g4, L.length, none⟩ = some (.pointer (some ⟨b', 0, none⟩)) := by
            have e1 := HM6.out.rl.cells (g := g4) rfl L.length (.pointer (some ⟨b', 0, none⟩)) (by unfold pbs; rw [List.getElem?_map, List.getElem?_append_right (Nat.le_refl _), Nat.sub_self]; rfl)
            rw [Addr.add_lit, Nat.zero_add] at e1
            exact e1
          clear hown6 hgrow6 hat6 HH5 HB5 HC5 HX4
          have hLL : ((L.length : Int) + 1 - 1) = (L.length : Int) := by omega
          go_wp2_with fail
          go_roundw
          case rel => exact ⟨g4, cap4, g6, cap6, i + 1, L ++ [⟨b', g', c', s.D, x', y', k', s.E⟩], by rw [List.length_append]; rfl, by rw [List.length_append]; rfl, by go_num, by omega, by rw [List.length_append]; simp, by rw [List.length_append, List.length_singleton]; omega, by rw [List.length_append]; exact HM6, HB6⟩
          case measure => simp only [intOf]; omega
        · have e5 : (q.k == 5) = false := by simpa using hk5
          clear hk5
          go_wp2_with fail
          have HCe : Hid (∀ V : World, (V.heap[gl]? = wr.heap[gl]? ∧ V.heap[gm]? = wr.heap[gm]? ∧ V.heap[ab]? = wr.heap[ab]?) → V.cell? ⟨gl, p, none⟩ = some (.pointer (some ⟨s.b, 0, none⟩)) ∧ V.cell? ⟨gm, p, none⟩ = some (.pointer (some ⟨s.x, 0, none⟩)) ∧ V.cell? ⟨ab, ao + i * 7, none⟩ = some (.int .i64 q.k) ∧ V.cell? ⟨ab, ao + i * 7 + 1, none⟩ = some (.int .i64 q.on) ∧ V.cell? ⟨ab, ao + i * 7 + 2, none⟩ = some (.int .i64 q.sl) ∧ V.cell? ⟨ab, ao + i * 7 + 3, none⟩ = some (.int .i64 q.li) ∧ V.cell? ⟨ab, ao + i * 7 + 4, none⟩ = some (.int .i64 q.se) ∧ V.cell? ⟨ab, ao + i * 7 + 5, none⟩ = some (.int .i64 q.nu) ∧ V.cell? ⟨ab, ao + i * 7 + 6, none⟩ = some (.string q.rp)) := hide fun V hV => by
            obtain ⟨h1, h2, h3⟩ := blocks_cells hV
            exact ⟨(h1 _).trans m0, (h2 _).trans m1, (h3 _).trans q0, (h3 _).trans q1, (h3 _).trans q2, (h3 _).trans q3, (h3 _).trans q4, (h3 _).trans q5, (h3 _).trans q6⟩
          have HPd : Hid (Pt B wr.drew s) := hide (HPt.out.keep rfl rfl rfl rfl)
          have HBk : Hid (∀ V : World, M2 s.g s.y wr.drew V → V.heap[gl]? = wr.heap[gl]? ∧ V.heap[gm]? = wr.heap[gm]? ∧ V.heap[ab]? = wr.heap[ab]?) := hide fun V hV => by
            obtain ⟨⟨cg, hcg⟩, ⟨cy, hcy⟩⟩ := HPt.out.blk
            obtain ⟨cl1, hcl1⟩ := own_blk HM.out.rl (k := gl) rfl
            obtain ⟨cm1, hcm1⟩ := own_blk HM.out.rm (k := gm) rfl
            have h1 := HPt.out.t.gB
            have h2 := HPt.out.r.gB
            exact ⟨hV.block gl (lt_of_block hcl1) (blk_ne hcl1 hcg (by decide)) (blk_ne hcl1 hcy (by decide)), hV.block gm (lt_of_block hcm1) (blk_ne hcm1 hcg (by decide)) (blk_ne hcm1 hcy (by decide)), hV.block ab (show ab < wr.heap.size by omega) (by omega) (by omega)⟩
          clear q0 q1 q2 q3 q4 q5 q6 m0 m1
          refine wp_region_held_drew (S := fun w' => w'.heap[gl]? = wr.heap[gl]? ∧ w'.heap[gm]? = wr.heap[gm]? ∧ w'.heap[ab]? = wr.heap[ab]?) (by kernel_rfl) (⟨rfl, rfl, rfl⟩) (fun hHeld => ?_)
          refine wpAnyH_take (i := 0) (v := .slice (some ⟨gl, 0, none⟩) L.length cl) rfl (by kernel_rfl) (by kernel_rfl) (by kernel_rfl) (fun _ _ _ h => h) (Or.inl ⟨by kernel_rfl, fun w1 hSw => by clear hHeld; obtain ⟨k0, k1, k2, k3, k4, k5, k6, k7, k8⟩ := HCe.out _ hSw; go_simp⟩) hHeld ?_
          try simp only [Act.put]
          try simp only [List.getElem_toArray]
          try simp only [List.getElem_cons_succ]
          try simp only [List.getElem_cons_zero]
          try simp only [List.setIfInBounds_toArray]
          try simp only [List.set_cons_succ, List.set_cons_zero]
          refine wpAnyH_take (i := 1) (v := .int .i64 (p : Int)) rfl (by kernel_rfl) (by kernel_rfl) (by kernel_rfl) (fun _ _ _ h => h) (Or.inl ⟨by kernel_rfl, fun w1 hSw => by clear hHeld; obtain ⟨k0, k1, k2, k3, k4, k5, k6, k7, k8⟩ := HCe.out _ hSw; go_simp⟩) hHeld ?_
          try simp only [Act.put]
          try simp only [List.getElem_toArray]
          try simp only [List.getElem_cons_succ]
          try simp only [List.getElem_cons_zero]
          try simp only [List.setIfInBounds_toArray]
          try simp only [List.set_cons_succ, List.set_cons_zero]
          refine wpAnyH_take (i := 2) (v := .pointer (some ⟨gl, p, none⟩)) rfl (by kernel_rfl) (by kernel_rfl) (by kernel_rfl) (fun _ _ _ h => h) (Or.inl ⟨by kernel_rfl, fun w1 hSw => by clear hHeld; obtain ⟨k0, k1, k2, k3, k4, k5, k6, k7, k8⟩ := HCe.out _ hSw; go_simp⟩) hHeld ?_
          try simp only [Act.put]
          try simp only [List.getElem_toArray]
          try simp only [List.getElem_cons_succ]
          try simp only [List.getElem_cons_zero]
          try simp only [List.setIfInBounds_toArray]
          try simp only [List.set_cons_succ, List.set_cons_zero]
          refine wpAnyH_take (i := 3) (v := .pointer (some ⟨s.b, 0, none⟩)) rfl (by kernel_rfl) (by kernel_rfl) (by kernel_rfl) (fun _ _ _ h => h) (Or.inl ⟨by kernel_rfl, fun w1 hSw => by clear hHeld; obtain ⟨k0, k1, k2, k3, k4, k5, k6, k7, k8⟩ := HCe.out _ hSw; go_simp⟩) hHeld ?_
          try simp only [Act.put]
          try simp only [List.getElem_toArray]
          try simp only [List.getElem_cons_succ]
          try simp only [List.getElem_cons_zero]
          try simp only [List.setIfInBounds_toArray]
          try simp only [List.set_cons_succ, List.set_cons_zero]
          refine wpAnyH_take (i := 4) (v := .slice (some ⟨gm, 0, none⟩) L.length cm) rfl (by kernel_rfl) (by kernel_rfl) (by kernel_rfl) (fun _ _ _ h => h) (Or.inl ⟨by kernel_rfl, fun w1 hSw => by clear hHeld; obtain ⟨k0, k1, k2, k3, k4, k5, k6, k7, k8⟩ := HCe.out _ hSw; go_simp⟩) hHeld ?_
          try simp only [Act.put]
          try simp only [List.getElem_toArray]
          try simp only [List.getElem_cons_succ]
          try simp only [List.getElem_cons_zero]
          try simp only [List.setIfInBounds_toArray]
          try simp only [List.set_cons_succ, List.set_cons_zero]
          refine wpAnyH_take (i := 5) (v := .int .i64 (p : Int)) rfl (by kernel_rfl) (by kernel_rfl) (by kernel_rfl) (fun _ _ _ h => h) (Or.inl ⟨by kernel_rfl, fun w1 hSw => by clear hHeld; obtain ⟨k0, k1, k2, k3, k4, k5, k6, k7, k8⟩ := HCe.out _ hSw; go_simp⟩) hHeld ?_
          try simp only [Act.put]
          try simp only [List.getElem_toArray]
          try simp only [List.getElem_cons_succ]
          try simp only [List.getElem_cons_zero]
          try simp only [List.setIfInBounds_toArray]
          try simp only [List.set_cons_succ, List.set_cons_zero]
          refine wpAnyH_take (i := 6) (v := .pointer (some ⟨gm, p, none⟩)) rfl (by kernel_rfl) (by kernel_rfl) (by kernel_rfl) (fun _ _ _ h => h) (Or.inl ⟨by kernel_rfl, fun w1 hSw => by clear hHeld; obtain ⟨k0, k1, k2, k3, k4, k5, k6, k7, k8⟩ := HCe.out _ hSw; go_simp⟩) hHeld ?_
          try simp only [Act.put]
          try simp only [List.getElem_toArray]
          try simp only [List.getElem_cons_succ]
          try simp only [List.getElem_cons_zero]
          try simp only [List.setIfInBounds_toArray]
          try simp only [List.set_cons_succ, List.set_cons_zero]
          refine wpAnyH_take (i := 7) (v := .pointer (some ⟨s.x, 0, none⟩)) rfl (by kernel_rfl) (by kernel_rfl) (by kernel_rfl) (fun _ _ _ h => h) (Or.inl ⟨by kernel_rfl, fun w1 hSw => by clear hHeld; obtain ⟨k0, k1, k2, k3, k4, k5, k6, k7, k8⟩ := HCe.out _ hSw; go_simp⟩) hHeld ?_
          try simp only [Act.put]
          try simp only [List.getElem_toArray]
          try simp only [List.getElem_cons_succ]
          try simp only [List.getElem_cons_zero]
          try simp only [List.setIfInBounds_toArray]
          try simp only [List.set_cons_succ, List.set_cons_zero]
          refine wpAnyH_take (i := 8) (v := .slice (some ⟨ab, ao, none⟩) Q.length cap) rfl (by kernel_rfl) (by kernel_rfl) (by kernel_rfl) (fun _ _ _ h => h) (Or.inl ⟨by kernel_rfl, fun w1 hSw => by clear hHeld; obtain ⟨k0, k1, k2, k3, k4, k5, k6, k7, k8⟩ := HCe.out _ hSw; go_simp⟩) hHeld ?_
          try simp only [Act.put]
          try simp only [List.getElem_toArray]
          try simp only [List.getElem_cons_succ]
          try simp only [List.getElem_cons_zero]
          try simp only [List.setIfInBounds_toArray]
          try simp only [List.set_cons_succ, List.set_cons_zero]
          refine wpAnyH_take (i := 9) (v := .int .i64 (i : Int)) rfl (by kernel_rfl) (by kernel_rfl) (by kernel_rfl) (fun _ _ _ h => h) (Or.inl ⟨by kernel_rfl, fun w1 hSw => by clear hHeld; obtain ⟨k0, k1, k2, k3, k4, k5, k6, k7, k8⟩ := HCe.out _ hSw; go_simp⟩) hHeld ?_
          try simp only [Act.put]
          try simp only [List.getElem_toArray]
          try simp only [List.getElem_cons_succ]
          try simp only [List.getElem_cons_zero]
          try simp only [List.setIfInBounds_toArray]
          try simp only [List.set_cons_succ, List.set_cons_zero]
          refine wpAnyH_take (i := 10) (v := .pointer (some ⟨ab, ao + i * 7, none⟩)) rfl (by kernel_rfl) (by kernel_rfl) (by kernel_rfl) (fun _ _ _ h => h) (Or.inl ⟨by kernel_rfl, fun w1 hSw => by clear hHeld; obtain ⟨k0, k1, k2, k3, k4, k5, k6, k7, k8⟩ := HCe.out _ hSw; go_simp⟩) hHeld ?_
          try simp only [Act.put]
          try simp only [List.getElem_toArray]
          try simp only [List.getElem_cons_succ]
          try simp only [List.getElem_cons_zero]
          try simp only [List.setIfInBounds_toArray]
          try simp only [List.set_cons_succ, List.set_cons_zero]
          refine wpAnyH_take (i := 11) (v := .agg #[.int .i64 q.k, .int .i64 q.on, .int .i64 q.sl, .int .i64 q.li, .int .i64 q.se, .int .i64 q.nu, .string q.rp]) rfl (by kernel_rfl) (by kernel_rfl) (by kernel_rfl) (fun _ _ _ h => h) (Or.inl ⟨by kernel_rfl, fun w1 hSw => by clear hHeld; obtain ⟨k0, k1, k2, k3, k4, k5, k6, k7, k8⟩ := HCe.out _ hSw; go_simp⟩) hHeld ?_
          try simp only [Act.put]
          try simp only [List.getElem_toArray]
          try simp only [List.getElem_cons_succ]
          try simp only [List.getElem_cons_zero]
          try simp only [List.setIfInBounds_toArray]
          try simp only [List.set_cons_succ, List.set_cons_zero]
          refine wpAnyH_ready (rs := [12]) (by kernel_rfl) (by simp) ?_
          refine AllReadyH.cons rfl (fun K hK => ?_) AllReadyH.nil
          go_simp
          refine (tells_any HPd.out q HBO.out.2.2.2.2).mono ?_
          rintro e V1 ⟨rfl, hp1, hm1⟩
          have HP1 := hide hp1
          have HM1 := hide hm1
          clear hp1 hm1
          refine hK.out _ _ (HBk.out _ HM1.out) (fun hHeld => ?_)
          clear hK K
          try simp only [Act.put]
          try simp only [List.getElem_toArray]
          try simp only [List.getElem_cons_succ]
          try simp only [List.getElem_cons_zero]
          try simp only [List.setIfInBounds_toArray]
          try simp only [List.set_cons_succ, List.set_cons_zero]
          refine wpAnyH_take (i := 13) (v := .bool false) rfl (by kernel_rfl) (by kernel_rfl) (by kernel_rfl) (fun _ _ _ h => h) (Or.inl ⟨by kernel_rfl, fun w1 hSw => by clear hHeld; obtain ⟨k0, k1, k2, k3, k4, k5, k6, k7, k8⟩ := HCe.out _ hSw; go_simp⟩) hHeld ?_
          try simp only [Act.put]
          try simp only [List.getElem_toArray]
          try simp only [List.getElem_cons_succ]
          try simp only [List.getElem_cons_zero]
          try simp only [List.setIfInBounds_toArray]
          try simp only [List.set_cons_succ, List.set_cons_zero]
          refine wpAnyH_done (by kernel_rfl) ?_ _
          have HM6 := hide (HM.out.step HS.out q HP1.out ⟨HM1.out.os, HM1.out.tape, HM1.out.output, HM1.out.size, HM1.out.block⟩)
          have HB6 : Hid (Below B w V1) := hide (HB.out.trans (M2.below (w := wr) ⟨HM1.out.os, HM1.out.tape, HM1.out.output, HM1.out.size, HM1.out.block⟩ HPt.out.t.gB HPt.out.r.gB hBr))
          clear HP1 HM1 hHeld HBk HCe HPd HM HB HPt
          go_wp2_with fail
          go_roundw
          case rel => exact ⟨gl, cl, gm, cm, i + 1, L.set p (s.does q), by rw [List.length_set], by rw [List.length_set], by go_num, by omega, by rw [List.length_set]; exact hL1, by rw [List.length_set]; omega, by rw [List.length_set]; exact HM6, HB6⟩
          case measure => simp only [intOf]; omega
      · skip
        obtain ⟨p, hp⟩ : ∃ p : Nat, t = (p : Int) := ⟨t.toNat, by omega⟩
        subst hp
        have b0 : decide ((p : Int) < 0) = false := decide_eq_false h0
        have hpl : p < L.length := by omega
        have hpI : (p : Int) < (L.length : Int) := by omega
        obtain ⟨s, hs⟩ : ∃ s, L[p]? = some s := ⟨_, List.getElem?_eq_getElem hpl⟩
        have HS := hide hs
        have m0 := HM.out.cl hs
        have m1 := HM.out.cm hs
        have HPt := hide (HM.out.kp.pt p s hs)
        clear hs
        by_cases hk5 : q.k = 5
        · have e5 : (q.k == 5) = true := by simpa using hk5
          clear hk5
          go_wp2_with fail
          refine (tclone_any HPt.out.t HPt.out.n1).mono ?_
          rintro e w3 ⟨b', g', c', rfl, hT3, hB3⟩
          have HM3 := hide (HM.out.below hB3)
          have HT3 := hide (hT3.wide hBr)
          have HB3 := hide (HB.out.trans (hB3.mono hBr))
          have HNB : Hid (∀ (i : Nat) (s : Sc), L[i]? = some s → s.g ≠ g' ∧ s.y ≠ g') := hide fun i s hs => by
            have h1 := (HM.out.kp.pt i s hs).t.gl
            have h2 := (HM.out.kp.pt i s hs).r.gl
            have h3 := hT3.gB
            exact ⟨by omega, by omega⟩
          have h23 := hB3.size
          clear hT3 hB3 m0 m1 q0 q1 q2 q3 q4 q5 q6 HM HB
          obtain ⟨iB, hiB, zB0, zB1, zB2⟩ := info_parts Try.infoPT
          obtain ⟨iX, hiX, zX0, zX1, zX2⟩ := info_parts Try.infoXT
          go_upto_region 17 with (at_builtin; refine wpList_append_lies _ rfl _ _ 53 rfl B 47 iB (.pointer none) 1 8 Try.underlying53 hiB zB0 zB1 zB2 rfl (by decide) (.slice (some ⟨gl, 0, none⟩) L.length cl) L.length (pbs L) rfl (HM3.out.rl.alloc _) ⟨w3.heap.size, 0, none⟩ 1 1 [.pointer (some ⟨b', 0, none⟩)] rfl rfl (one_new _ _ _) (by intro u hu; simp at hu; subst hu; rfl) (by decide) (by unfold maxLen; omega) (by omega) (by rw [World.size_alloc]; omega) _ rfl ?_; intro g4 cap4 w4 hown4 hgrow4 hat4 _)
          have HH4 := hide (HM3.out.half HT3.out HNB.out hown4 hgrow4)
          have HB4 := hide (below_grow HB3.out (by omega) hgrow4 (fun k hk => (HM3.out.rl.lt k hk).1))
          have hs4 : w3.heap.size ≤ w4.heap.size := by have := hgrow4.size; rw [World.size_alloc] at this; omega
          clear hown4 hgrow4 hat4 HM3 HB3 HT3 HNB
          have m4 : w4.cell? ⟨gm, p, none⟩ = some (.pointer (some ⟨s.x, 0, none⟩)) := by
            have e1 := HH4.out.rm.cells (g := gm) rfl p (.pointer (some ⟨s.x, 0, none⟩)) (by unfold pxs; rw [List.getElem?_map, HS.out]; rfl)
            rw [Addr.add_lit, Nat.zero_add] at e1
            exact e1
          have HX4 := hide (HH4.out.kp.pt p s HS.out)
          go_wp2_with fail
          refine (rclone_any HX4.out.r (by rw [← HX4.out.l.len]; exact HX4.out.n1)).mono ?_
          rintro e w5 ⟨x', y', k', rfl, hC5, hB5⟩
          have HNX : Hid (∀ (i : Nat) (s : Sc), L[i]? = some s → s.y ≠ y' ∧ s.g ≠ y') := hide fun i s hs => by
            have h1 := (HH4.out.kp.pt i s hs).t.gl
            have h2 := (HH4.out.kp.pt i s hs).r.gl
            have h3 := hC5.gB
            exact ⟨by omega, by omega⟩
          have HGY : Hid (g' ≠ y') := hide (by have h1 := HH4.out.t.gl; have h3 := hC5.gB; omega)
          have HH5 := hide (HH4.out.below hB5)
          have HB5 := hide (HB4.out.trans (hB5.mono (by omega)))
          have h45 := hB5.size
          have HC5 := hide (hC5.wide (show B ≤ w4.heap.size by omega))
          clear hC5 hB5 m4 HH4 HB4
          go_upto_region 18 with (at_builtin; refine wpList_append_lies _ rfl _ _ 54 rfl B 50 iX (.pointer none) 1 8 Try.underlying54 hiX zX0 zX1 zX2 rfl (by decide) (.slice (some ⟨gm, 0, none⟩) L.length cm) L.length (pxs L) rfl (HH5.out.rm.alloc _) ⟨w5.heap.size, 0, none⟩ 1 1 [.pointer (some ⟨x', 0, none⟩)] rfl rfl (one_new _ _ _) (by intro u hu; simp at hu; subst hu; rfl) (by decide) (by unfold maxLen; omega) (by omega) (by rw [World.size_alloc]; omega) _ rfl ?_; intro g6 cap6 w6 hown6 hgrow6 hat6 _)
          have HM6 := hide (HH5.out.whole HC5.out HNX.out HGY.out HX4.out.d HX4.out.e HX4.out.l HX4.out.n1 hown6 hgrow6)
          have HB6 := hide (below_grow HB5.out (by omega) hgrow6 (fun k hk => (HH5.out.rm.lt k hk).1))
          have m6 : w6.cell? ⟨g4, L.length, none⟩ = some (.pointer (some ⟨b', 0, none⟩)) := by
            have e1 := HM6.out.rl.cells (g := g4) rfl L.length (.pointer (some ⟨b', 0, none⟩)) (by unfold pbs; rw [List.getElem?_map, List.getElem?_append_right (Nat.le_refl _), Nat.sub_self]; rfl)
            rw [Addr.add_lit, Nat.zero_add] at e1
            exact e1
          clear hown6 hgrow6 hat6 HH5 HB5 HC5 HX4
          have hLL : ((L.length : Int) + 1 - 1) = (L.length : Int) := by omega
          go_wp2_with fail
          go_roundw
          case rel => exact ⟨g4, cap4, g6, cap6, i + 1, L ++ [⟨b', g', c', s.D, x', y', k', s.E⟩], by rw [List.length_append]; rfl, by rw [List.length_append]; rfl, by go_num, by omega, by rw [List.length_append]; simp, by rw [List.length_append, List.length_singleton]; omega, by rw [List.length_append]; exact HM6, HB6⟩
          case measure => simp only [intOf]; omega
        · have e5 : (q.k == 5) = false := by simpa using hk5
          clear hk5
          go_wp2_with fail
          have HCe : Hid (∀ V : World, (V.heap[gl]? = wr.heap[gl]? ∧ V.heap[gm]? = wr.heap[gm]? ∧ V.heap[ab]? = wr.heap[ab]?) → V.cell? ⟨gl, p, none⟩ = some (.pointer (some ⟨s.b, 0, none⟩)) ∧ V.cell? ⟨gm, p, none⟩ = some (.pointer (some ⟨s.x, 0, none⟩)) ∧ V.cell? ⟨ab, ao + i * 7, none⟩ = some (.int .i64 q.k) ∧ V.cell? ⟨ab, ao + i * 7 + 1, none⟩ = some (.int .i64 q.on) ∧ V.cell? ⟨ab, ao + i * 7 + 2, none⟩ = some (.int .i64 q.sl) ∧ V.cell? ⟨ab, ao + i * 7 + 3, none⟩ = some (.int .i64 q.li) ∧ V.cell? ⟨ab, ao + i * 7 + 4, none⟩ = some (.int .i64 q.se) ∧ V.cell? ⟨ab, ao + i * 7 + 5, none⟩ = some (.int .i64 q.nu) ∧ V.cell? ⟨ab, ao + i * 7 + 6, none⟩ = some (.string q.rp)) := hide fun V hV => by
            obtain ⟨h1, h2, h3⟩ := blocks_cells hV
            exact ⟨(h1 _).trans m0, (h2 _).trans m1, (h3 _).trans q0, (h3 _).trans q1, (h3 _).trans q2, (h3 _).trans q3, (h3 _).trans q4, (h3 _).trans q5, (h3 _).trans q6⟩
          have HPd : Hid (Pt B wr.drew s) := hide (HPt.out.keep rfl rfl rfl rfl)
          have HBk : Hid (∀ V : World, M2 s.g s.y wr.drew V → V.heap[gl]? = wr.heap[gl]? ∧ V.heap[gm]? = wr.heap[gm]? ∧ V.heap[ab]? = wr.heap[ab]?) := hide fun V hV => by
            obtain ⟨⟨cg, hcg⟩, ⟨cy, hcy⟩⟩ := HPt.out.blk
            obtain ⟨cl1, hcl1⟩ := own_blk HM.out.rl (k := gl) rfl
            obtain ⟨cm1, hcm1⟩ := own_blk HM.out.rm (k := gm) rfl
            have h1 := HPt.out.t.gB
            have h2 := HPt.out.r.gB
            exact ⟨hV.block gl (lt_of_block hcl1) (blk_ne hcl1 hcg (by decide)) (blk_ne hcl1 hcy (by decide)), hV.block gm (lt_of_block hcm1) (blk_ne hcm1 hcg (by decide)) (blk_ne hcm1 hcy (by decide)), hV.block ab (show ab < wr.heap.size by omega) (by omega) (by omega)⟩
          clear q0 q1 q2 q3 q4 q5 q6 m0 m1
          refine wp_region_held_drew (S := fun w' => w'.heap[gl]? = wr.heap[gl]? ∧ w'.heap[gm]? = wr.heap[gm]? ∧ w'.heap[ab]? = wr.heap[ab]?) (by kernel_rfl) (⟨rfl, rfl, rfl⟩) (fun hHeld => ?_)
          refine wpAnyH_take (i := 0) (v := .slice (some ⟨gl, 0, none⟩) L.length cl) rfl (by kernel_rfl) (by kernel_rfl) (by kernel_rfl) (fun _ _ _ h => h) (Or.inl ⟨by kernel_rfl, fun w1 hSw => by clear hHeld; obtain ⟨k0, k1, k2, k3, k4, k5, k6, k7, k8⟩ := HCe.out _ hSw; go_simp⟩) hHeld ?_
          try simp only [Act.put]
          try simp only [List.getElem_toArray]
          try simp only [List.getElem_cons_succ]
          try simp only [List.getElem_cons_zero]
          try simp only [List.setIfInBounds_toArray]
          try simp only [List.set_cons_succ, List.set_cons_zero]
          refine wpAnyH_take (i := 1) (v := .int .i64 (p : Int)) rfl (by kernel_rfl) (by kernel_rfl) (by kernel_rfl) (fun _ _ _ h => h) (Or.inl ⟨by kernel_rfl, fun w1 hSw => by clear hHeld; obtain ⟨k0, k1, k2, k3, k4, k5, k6, k7, k8⟩ := HCe.out _ hSw; go_simp⟩) hHeld ?_
          try simp only [Act.put]
          try simp only [List.getElem_toArray]
          try simp only [List.getElem_cons_succ]
          try simp only [List.getElem_cons_zero]
          try simp only [List.setIfInBounds_toArray]
          try simp only [List.set_cons_succ, List.set_cons_zero]
          refine wpAnyH_take (i := 2) (v := .pointer (some ⟨gl, p, none⟩)) rfl (by kernel_rfl) (by kernel_rfl) (by kernel_rfl) (fun _ _ _ h => h) (Or.inl ⟨by kernel_rfl, fun w1 hSw => by clear hHeld; obtain ⟨k0, k1, k2, k3, k4, k5, k6, k7, k8⟩ := HCe.out _ hSw; go_simp⟩) hHeld ?_
          try simp only [Act.put]
          try simp only [List.getElem_toArray]
          try simp only [List.getElem_cons_succ]
          try simp only [List.getElem_cons_zero]
          try simp only [List.setIfInBounds_toArray]
          try simp only [List.set_cons_succ, List.set_cons_zero]
          refine wpAnyH_take (i := 3) (v := .pointer (some ⟨s.b, 0, none⟩)) rfl (by kernel_rfl) (by kernel_rfl) (by kernel_rfl) (fun _ _ _ h => h) (Or.inl ⟨by kernel_rfl, fun w1 hSw => by clear hHeld; obtain ⟨k0, k1, k2, k3, k4, k5, k6, k7, k8⟩ := HCe.out _ hSw; go_simp⟩) hHeld ?_
          try simp only [Act.put]
          try simp only [List.getElem_toArray]
          try simp only [List.getElem_cons_succ]
          try simp only [List.getElem_cons_zero]
          try simp only [List.setIfInBounds_toArray]
          try simp only [List.set_cons_succ, List.set_cons_zero]
          refine wpAnyH_take (i := 4) (v := .slice (some ⟨gm, 0, none⟩) L.length cm) rfl (by kernel_rfl) (by kernel_rfl) (by kernel_rfl) (fun _ _ _ h => h) (Or.inl ⟨by kernel_rfl, fun w1 hSw => by clear hHeld; obtain ⟨k0, k1, k2, k3, k4, k5, k6, k7, k8⟩ := HCe.out _ hSw; go_simp⟩) hHeld ?_
          try simp only [Act.put]
          try simp only [List.getElem_toArray]
          try simp only [List.getElem_cons_succ]
          try simp only [List.getElem_cons_zero]
          try simp only [List.setIfInBounds_toArray]
          try simp only [List.set_cons_succ, List.set_cons_zero]
          refine wpAnyH_take (i := 5) (v := .int .i64 (p : Int)) rfl (by kernel_rfl) (by kernel_rfl) (by kernel_rfl) (fun _ _ _ h => h) (Or.inl ⟨by kernel_rfl, fun w1 hSw => by clear hHeld; obtain ⟨k0, k1, k2, k3, k4, k5, k6, k7, k8⟩ := HCe.out _ hSw; go_simp⟩) hHeld ?_
          try simp only [Act.put]
          try simp only [List.getElem_toArray]
          try simp only [List.getElem_cons_succ]
          try simp only [List.getElem_cons_zero]
          try simp only [List.setIfInBounds_toArray]
          try simp only [List.set_cons_succ, List.set_cons_zero]
          refine wpAnyH_take (i := 6) (v := .pointer (some ⟨gm, p, none⟩)) rfl (by kernel_rfl) (by kernel_rfl) (by kernel_rfl) (fun _ _ _ h => h) (Or.inl ⟨by kernel_rfl, fun w1 hSw => by clear hHeld; obtain ⟨k0, k1, k2, k3, k4, k5, k6, k7, k8⟩ := HCe.out _ hSw; go_simp⟩) hHeld ?_
          try simp only [Act.put]
          try simp only [List.getElem_toArray]
          try simp only [List.getElem_cons_succ]
          try simp only [List.getElem_cons_zero]
          try simp only [List.setIfInBounds_toArray]
          try simp only [List.set_cons_succ, List.set_cons_zero]
          refine wpAnyH_take (i := 7) (v := .pointer (some ⟨s.x, 0, none⟩)) rfl (by kernel_rfl) (by kernel_rfl) (by kernel_rfl) (fun _ _ _ h => h) (Or.inl ⟨by kernel_rfl, fun w1 hSw => by clear hHeld; obtain ⟨k0, k1, k2, k3, k4, k5, k6, k7, k8⟩ := HCe.out _ hSw; go_simp⟩) hHeld ?_
          try simp only [Act.put]
          try simp only [List.getElem_toArray]
          try simp only [List.getElem_cons_succ]
          try simp only [List.getElem_cons_zero]
          try simp only [List.setIfInBounds_toArray]
          try simp only [List.set_cons_succ, List.set_cons_zero]
          refine wpAnyH_take (i := 8) (v := .slice (some ⟨ab, ao, none⟩) Q.length cap) rfl (by kernel_rfl) (by kernel_rfl) (by kernel_rfl) (fun _ _ _ h => h) (Or.inl ⟨by kernel_rfl, fun w1 hSw => by clear hHeld; obtain ⟨k0, k1, k2, k3, k4, k5, k6, k7, k8⟩ := HCe.out _ hSw; go_simp⟩) hHeld ?_
          try simp only [Act.put]
          try simp only [List.getElem_toArray]
          try simp only [List.getElem_cons_succ]
          try simp only [List.getElem_cons_zero]
          try simp only [List.setIfInBounds_toArray]
          try simp only [List.set_cons_succ, List.set_cons_zero]
          refine wpAnyH_take (i := 9) (v := .int .i64 (i : Int)) rfl (by kernel_rfl) (by kernel_rfl) (by kernel_rfl) (fun _ _ _ h => h) (Or.inl ⟨by kernel_rfl, fun w1 hSw => by clear hHeld; obtain ⟨k0, k1, k2, k3, k4, k5, k6, k7, k8⟩ := HCe.out _ hSw; go_simp⟩) hHeld ?_
          try simp only [Act.put]
          try simp only [List.getElem_toArray]
          try simp only [List.getElem_cons_succ]
          try simp only [List.getElem_cons_zero]
          try simp only [List.setIfInBounds_toArray]
          try simp only [List.set_cons_succ, List.set_cons_zero]
          refine wpAnyH_take (i := 10) (v := .pointer (some ⟨ab, ao + i * 7, none⟩)) rfl (by kernel_rfl) (by kernel_rfl) (by kernel_rfl) (fun _ _ _ h => h) (Or.inl ⟨by kernel_rfl, fun w1 hSw => by clear hHeld; obtain ⟨k0, k1, k2, k3, k4, k5, k6, k7, k8⟩ := HCe.out _ hSw; go_simp⟩) hHeld ?_
          try simp only [Act.put]
          try simp only [List.getElem_toArray]
          try simp only [List.getElem_cons_succ]
          try simp only [List.getElem_cons_zero]
          try simp only [List.setIfInBounds_toArray]
          try simp only [List.set_cons_succ, List.set_cons_zero]
          refine wpAnyH_take (i := 11) (v := .agg #[.int .i64 q.k, .int .i64 q.on, .int .i64 q.sl, .int .i64 q.li, .int .i64 q.se, .int .i64 q.nu, .string q.rp]) rfl (by kernel_rfl) (by kernel_rfl) (by kernel_rfl) (fun _ _ _ h => h) (Or.inl ⟨by kernel_rfl, fun w1 hSw => by clear hHeld; obtain ⟨k0, k1, k2, k3, k4, k5, k6, k7, k8⟩ := HCe.out _ hSw; go_simp⟩) hHeld ?_
          try simp only [Act.put]
          try simp only [List.getElem_toArray]
          try simp only [List.getElem_cons_succ]
          try simp only [List.getElem_cons_zero]
          try simp only [List.setIfInBounds_toArray]
          try simp only [List.set_cons_succ, List.set_cons_zero]
          refine wpAnyH_ready (rs := [12]) (by kernel_rfl) (by simp) ?_
          refine AllReadyH.cons rfl (fun K hK => ?_) AllReadyH.nil
          go_simp
          refine (tells_any HPd.out q HBO.out.2.2.2.2).mono ?_
          rintro e V1 ⟨rfl, hp1, hm1⟩
          have HP1 := hide hp1
          have HM1 := hide hm1
          clear hp1 hm1
          refine hK.out _ _ (HBk.out _ HM1.out) (fun hHeld => ?_)
          clear hK K
          try simp only [Act.put]
          try simp only [List.getElem_toArray]
          try simp only [List.getElem_cons_succ]
          try simp only [List.getElem_cons_zero]
          try simp only [List.setIfInBounds_toArray]
          try simp only [List.set_cons_succ, List.set_cons_zero]
          refine wpAnyH_take (i := 13) (v := .bool false) rfl (by kernel_rfl) (by kernel_rfl) (by kernel_rfl) (fun _ _ _ h => h) (Or.inl ⟨by kernel_rfl, fun w1 hSw => by clear hHeld; obtain ⟨k0, k1, k2, k3, k4, k5, k6, k7, k8⟩ := HCe.out _ hSw; go_simp⟩) hHeld ?_
          try simp only [Act.put]
          try simp only [List.getElem_toArray]
          try simp only [List.getElem_cons_succ]
          try simp only [List.getElem_cons_zero]
          try simp only [List.setIfInBounds_toArray]
          try simp only [List.set_cons_succ, List.set_cons_zero]
          refine wpAnyH_done (by kernel_rfl) ?_ _
          have HM6 := hide (HM.out.step HS.out q HP1.out ⟨HM1.out.os, HM1.out.tape, HM1.out.output, HM1.out.size, HM1.out.block⟩)
          have HB6 : Hid (Below B w V1) := hide (HB.out.trans (M2.below (w := wr) ⟨HM1.out.os, HM1.out.tape, HM1.out.output, HM1.out.size, HM1.out.block⟩ HPt.out.t.gB HPt.out.r.gB hBr))
          clear HP1 HM1 hHeld HBk HCe HPd HM HB HPt
          go_wp2_with fail
          go_roundw
          case rel => exact ⟨gl, cl, gm, cm, i + 1, L.set p (s.does q), by rw [List.length_set], by rw [List.length_set], by go_num, by omega, by rw [List.length_set]; exact hL1, by rw [List.length_set]; omega, by rw [List.length_set]; exact HM6, HB6⟩
          case measure => simp only [intOf]; omega
    · have hii : ¬ (i : Int) < (Q.length : Int) := by omega
      go_wp2_with fail
      go_loopw [13] (fun u wx => ∃ j : Nat, u = .int .i64 (j : Int) ∧ j ≤ L.length ∧ Hid (Mem B wx (.slice (some ⟨gl, 0, none⟩) L.length cl) (.slice (some ⟨gm, 0, none⟩) L.length cm) L) ∧ Hid (Below B w wx)) (fun u _ => L.length - (intOf u).toNat)
      case atStart => exact ⟨0, rfl, Nat.zero_le _, HM, HB⟩
      case round =>
        clear HM HB
        obtain ⟨p, rfl, hj, HM, HB⟩ := hrel
        by_cases hp : p < L.length
        · have hpI : (p : Int) < (L.length : Int) := by omega
          obtain ⟨s, hs⟩ : ∃ s, L[p]? = some s := ⟨_, List.getElem?_eq_getElem hp⟩
          have m0 := HM.out.cl hs
          have m1 := HM.out.cm hs
          have HPt := hide (HM.out.kp.pt p s hs)
          clear hs
          go_wp2_with fail
          have HCe : Hid (∀ V : World, (V.heap[gl]? = wr.heap[gl]? ∧ V.heap[gm]? = wr.heap[gm]?) → V.cell? ⟨gl, p, none⟩ = some (.pointer (some ⟨s.b, 0, none⟩)) ∧ V.cell? ⟨gm, p, none⟩ = some (.pointer (some ⟨s.x, 0, none⟩))) := hide fun V hV => ⟨(World.cell?_of_block hV.1).trans m0, (World.cell?_of_block hV.2).trans m1⟩
          have HPd : Hid (Pt B wr.drew s) := hide (HPt.out.keep rfl rfl rfl rfl)
          have HBk : Hid (gl < wr.heap.size ∧ gm < wr.heap.size) := hide ⟨(HM.out.rl.lt gl rfl).2, (HM.out.rm.lt gm rfl).2⟩
          clear m0 m1
          refine wp_region_held_drew (S := fun w' => w'.heap[gl]? = wr.heap[gl]? ∧ w'.heap[gm]? = wr.heap[gm]?) (by kernel_rfl) (⟨rfl, rfl⟩) (fun hHeld => ?_)
          refine wpAnyH_take (i := 0) (v := .slice (some ⟨gl, 0, none⟩) L.length cl) rfl (by kernel_rfl) (by kernel_rfl) (by kernel_rfl) (fun _ _ _ h => h) (Or.inl ⟨by kernel_rfl, fun w1 hSw => by clear hHeld; obtain ⟨k0, k1⟩ := HCe.out _ hSw; go_simp⟩) hHeld ?_
          try simp only [Act.put]
          try simp only [List.getElem_toArray]
          try simp only [List.getElem_cons_succ]
          try simp only [List.getElem_cons_zero]
          try simp only [List.setIfInBounds_toArray]
          try simp only [List.set_cons_succ, List.set_cons_zero]
          refine wpAnyH_take (i := 1) (v := .int .i64 (p : Int)) rfl (by kernel_rfl) (by kernel_rfl) (by kernel_rfl) (fun _ _ _ h => h) (Or.inl ⟨by kernel_rfl, fun w1 hSw => by clear hHeld; obtain ⟨k0, k1⟩ := HCe.out _ hSw; go_simp⟩) hHeld ?_
          try simp only [Act.put]
          try simp only [List.getElem_toArray]
          try simp only [List.getElem_cons_succ]
          try simp only [List.getElem_cons_zero]
          try simp only [List.setIfInBounds_toArray]
          try simp only [List.set_cons_succ, List.set_cons_zero]
          refine wpAnyH_take (i := 2) (v := .pointer (some ⟨gl, p, none⟩)) rfl (by kernel_rfl) (by kernel_rfl) (by kernel_rfl) (fun _ _ _ h => h) (Or.inl ⟨by kernel_rfl, fun w1 hSw => by clear hHeld; obtain ⟨k0, k1⟩ := HCe.out _ hSw; go_simp⟩) hHeld ?_
          try simp only [Act.put]
          try simp only [List.getElem_toArray]
          try simp only [List.getElem_cons_succ]
          try simp only [List.getElem_cons_zero]
          try simp only [List.setIfInBounds_toArray]
          try simp only [List.set_cons_succ, List.set_cons_zero]
          refine wpAnyH_take (i := 3) (v := .pointer (some ⟨s.b, 0, none⟩)) rfl (by kernel_rfl) (by kernel_rfl) (by kernel_rfl) (fun _ _ _ h => h) (Or.inl ⟨by kernel_rfl, fun w1 hSw => by clear hHeld; obtain ⟨k0, k1⟩ := HCe.out _ hSw; go_simp⟩) hHeld ?_
          try simp only [Act.put]
          try simp only [List.getElem_toArray]
          try simp only [List.getElem_cons_succ]
          try simp only [List.getElem_cons_zero]
          try simp only [List.setIfInBounds_toArray]
          try simp only [List.set_cons_succ, List.set_cons_zero]
          refine wpAnyH_take (i := 4) (v := .slice (some ⟨gm, 0, none⟩) L.length cm) rfl (by kernel_rfl) (by kernel_rfl) (by kernel_rfl) (fun _ _ _ h => h) (Or.inl ⟨by kernel_rfl, fun w1 hSw => by clear hHeld; obtain ⟨k0, k1⟩ := HCe.out _ hSw; go_simp⟩) hHeld ?_
          try simp only [Act.put]
          try simp only [List.getElem_toArray]
          try simp only [List.getElem_cons_succ]
          try simp only [List.getElem_cons_zero]
          try simp only [List.setIfInBounds_toArray]
          try simp only [List.set_cons_succ, List.set_cons_zero]
          refine wpAnyH_take (i := 5) (v := .int .i64 (p : Int)) rfl (by kernel_rfl) (by kernel_rfl) (by kernel_rfl) (fun _ _ _ h => h) (Or.inl ⟨by kernel_rfl, fun w1 hSw => by clear hHeld; obtain ⟨k0, k1⟩ := HCe.out _ hSw; go_simp⟩) hHeld ?_
          try simp only [Act.put]
          try simp only [List.getElem_toArray]
          try simp only [List.getElem_cons_succ]
          try simp only [List.getElem_cons_zero]
          try simp only [List.setIfInBounds_toArray]
          try simp only [List.set_cons_succ, List.set_cons_zero]
          refine wpAnyH_take (i := 6) (v := .pointer (some ⟨gm, p, none⟩)) rfl (by kernel_rfl) (by kernel_rfl) (by kernel_rfl) (fun _ _ _ h => h) (Or.inl ⟨by kernel_rfl, fun w1 hSw => by clear hHeld; obtain ⟨k0, k1⟩ := HCe.out _ hSw; go_simp⟩) hHeld ?_
          try simp only [Act.put]
          try simp only [List.getElem_toArray]
          try simp only [List.getElem_cons_succ]
          try simp only [List.getElem_cons_zero]
          try simp only [List.setIfInBounds_toArray]
          try simp only [List.set_cons_succ, List.set_cons_zero]
          refine wpAnyH_take (i := 7) (v := .pointer (some ⟨s.x, 0, none⟩)) rfl (by kernel_rfl) (by kernel_rfl) (by kernel_rfl) (fun _ _ _ h => h) (Or.inl ⟨by kernel_rfl, fun w1 hSw => by clear hHeld; obtain ⟨k0, k1⟩ := HCe.out _ hSw; go_simp⟩) hHeld ?_
          try simp only [Act.put]
          try simp only [List.getElem_toArray]
          try simp only [List.getElem_cons_succ]
          try simp only [List.getElem_cons_zero]
          try simp only [List.setIfInBounds_toArray]
          try simp only [List.set_cons_succ, List.set_cons_zero]
          refine wpAnyH_ready (rs := [8]) (by kernel_rfl) (by simp) ?_
          refine AllReadyH.cons rfl (fun K hK => ?_) AllReadyH.nil
          go_simp
          refine (lrows_any HPd.out).mono ?_
          rintro e V1 ⟨rfl, hb1⟩
          have HB1 := hide hb1
          clear hb1
          refine hK.out _ _ (⟨HB1.out.block gl HBk.out.1, HB1.out.block gm HBk.out.2⟩) (fun hHeld => ?_)
          clear hK K
          try simp only [Act.put]
          try simp only [List.getElem_toArray]
          try simp only [List.getElem_cons_succ]
          try simp only [List.getElem_cons_zero]
          try simp only [List.setIfInBounds_toArray]
          try simp only [List.set_cons_succ, List.set_cons_zero]
          refine wpAnyH_take (i := 9) (v := .bool false) rfl (by kernel_rfl) (by kernel_rfl) (by kernel_rfl) (fun _ _ _ h => h) (Or.inl ⟨by kernel_rfl, fun w1 hSw => by clear hHeld; obtain ⟨k0, k1⟩ := HCe.out _ hSw; go_simp⟩) hHeld ?_
          try simp only [Act.put]
          try simp only [List.getElem_toArray]
          try simp only [List.getElem_cons_succ]
          try simp only [List.getElem_cons_zero]
          try simp only [List.setIfInBounds_toArray]
          try simp only [List.set_cons_succ, List.set_cons_zero]
          refine wpAnyH_done (by kernel_rfl) ?_ _
          have HB6 : Hid (Below B w V1) := hide (HB.out.trans (Below.mono (show Below wr.heap.size wr V1 from ⟨HB1.out.os, HB1.out.tape, HB1.out.output, HB1.out.size, HB1.out.block⟩) (by have := HB.out.size; rw [HBe.out] at this; exact this)))
          have HM6 : Hid (Mem B V1 (.slice (some ⟨gl, 0, none⟩) L.length cl) (.slice (some ⟨gm, 0, none⟩) L.length cm) L) := hide (HM.out.below ⟨HB1.out.os, HB1.out.tape, HB1.out.output, HB1.out.size, HB1.out.block⟩)
          clear HB1 hHeld HPt HM HB
          go_wp2_with fail
          go_roundw
          case rel => exact ⟨p + 1, by go_num, by omega, HM6, HB6⟩
          case measure => simp only [intOf]; omega
        · have hpI : ¬ (p : Int) < (L.length : Int) := by omega
          clear HM
          go_wp2_with fail
          go_ret
          exact ⟨rfl, by rw [HBe.out]; exact HB.out⟩