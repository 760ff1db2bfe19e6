import Derived.Test.YthjngodkpldpfaaGreatDoorMgAW
import Derived.Test.YthjngodkpldpfaaGreatDoorMgBK

section
namespace Go.Proofs.YthjngodkpldpfaaGreatDoor
open Go.RowKit Go.Shelf

/-- what Whole tells of a program that may be -/
theorem whole_s {w : World} {v : Value} {fuel : Nat} {xs : List In} (hx : ∀ x ∈ xs, x.Fits) (h : Cd w v xs) (hc : Pg.checkE fuel xs = (0, 0)) (hp : Pok fuel xs) (hT : Tbs w) :
    Calls Tryz.prog 17 #[.agg #[.int .i64 (fuel : Int), v]] w fun e w' => ∃ o, e = .returned (.tuple #[o, .int .i64 0]) ∧ OutS w' o (Im.end_ xs fuel).1.en (Im.resB (Im.end_ xs fuel).1) (Im.end_ xs fuel).1.dn (Im.chk (Im.end_ xs fuel).2) (Im.pcs (Im.end_ xs fuel).2) ∧ Below w.heap.size w w' :=
  (whole_ok hx h hc hp hT).mono fun _ _ ⟨o, h1, h2, h3⟩ => ⟨o, h1, by have := out_s h2; rw [resC_en] at this; exact this, h3⟩
theorem check_zz {f : Nat} {xs : List In} (hp : Pok f xs) (hE : (Pg.checkE (f : Int) xs).1 = 0) : Pg.checkE (f : Int) xs = (0, 0) := by
  have h1 := hp.f1; have h2 := hp.f2; have h3 := hp.l1; have h4 := hp.l2
  unfold Pg.checkE at hE ⊢
  rw [if_neg (by omega), if_neg (by omega)] at hE ⊢
  exact goE_ok _ _ _ hE
theorem Pok.more {f d : Nat} {xs : List In} (hp : Pok f xs) (hd : f + d ≤ 1024) : Pok (f + d) xs := ⟨by have := hp.f1; omega, hd, hp.l1, hp.l2, hp.good⟩
theorem end_len (xs : List In) (fuel : Nat) : (Im.end_ xs fuel).2.length ≤ fuel := itr_len _ _ _ _
set_option maxRecDepth 20000 in
set_option maxHeartbeats 4000000 in
theorem interpFuel_walk (fuel : Int) (xs : List In) (hx : ∀ x ∈ xs, x.Fits) (v : Value) (more : Int) (hm1 : -9223372036854775808 ≤ more) (hm2 : more ≤ 9223372036854775807) (w : World) (h : Cd w v xs) (hT : Tbs w) :
    Calls Tryz.prog 6 #[.agg #[.int .i64 fuel, v], .int .i64 more] w fun e w' => e = .returned (.bool true) ∧ Below w.heap.size w w' := by
  have HCd := hide h
  have HT := hide hT
  have HX := hide hx
  by_cases hE : (Pg.checkE fuel xs).1 = 0
  · obtain ⟨f, rfl, hp⟩ := pok_of hx hE
    have hc := check_zz hp hE
    have HP := hide hp
    have HC := hide hc
    have hf1 := hp.f1
    have hf2 := hp.f2
    obtain ⟨p, cap, rfl, -⟩ := h
    clear hE hp hc hx hT
    go_enter Tryz.func6, Tryz.ntmps6
    go_wp2_with fail
    refine (whole_s HX.out (HCd.out.below (below_one w _) (Nat.le_refl _)) HC.out HP.out (HT.out.below (below_one w _))).mono ?_
    rintro e w1 ⟨o, rfl, ho, hb1⟩
    have HO := hide ho
    obtain ⟨cv, pv, rfl, s1, s2⟩ := ho
    have HS1 := hide s1
    have HS2 := hide s2
    obtain ⟨pc1, cc1, rfl, -, -⟩ := s1
    obtain ⟨pp1, cp1, rfl, -, -⟩ := s2
    have HB1 : Hid (Below w.heap.size w w1) := (below_one w _).trans (hb1.mono (by simp))
    have hpw : w1.heap[w.heap.size]? = some (.cells #[.int .i64 (f : Int), .slice p xs.length cap] 24 (0, 0)) := (hb1.block w.heap.size (by simp)).trans (heap_alloc_new w _)
    have HPW := hide hpw
    clear hb1 hpw
    go_wp2_with fail
    refine (iawake_true _ ((HT.out.below HB1.out).below (below_one w1 _))).mono ?_
    rintro e w2 ⟨rfl, hb2⟩
    have hO2 : w2.heap[w1.heap.size]? = some (.cells #[.int .i64 ((Im.end_ xs f).1.en : Int), .int .u64 (Im.resB (Im.end_ xs f).1 : Int), .slice pc1 (Im.chk (Im.end_ xs f).2).length cc1, .slice pp1 (Im.pcs (Im.end_ xs f).2).length cp1, .int .i64 ((Im.end_ xs f).1.dn : Int)] 48 (0, 0)) := (hb2.block w1.heap.size (by simp)).trans (heap_alloc_new w1 _)
    have hb21 : Below w1.heap.size w1 w2 := (below_one w1 _).trans (hb2.mono (by simp))
    have hP2 := (hb21.block _ (lt_of_block HPW.out)).trans HPW.out
    have p0 : w2.cell? ⟨w.heap.size, 0, none⟩ = some (.int .i64 (f : Int)) := cell_of_block hP2 rfl
    have p1 : w2.cell? ⟨w.heap.size, 1, none⟩ = some (.slice p xs.length cap) := cell_of_block hP2 rfl
    have HO2 := hide (HO.out.below hb21)
    have HB2 : Hid (Below w.heap.size w w2) := HB1.out.trans (hb21.mono HB1.out.size)
    obtain ⟨o0, o1, o2, o3, o4, -⟩ := five_of hO2
    have HOB := hide hO2
    have hne : ¬ w.heap.size = w2.heap.size := by have := lt_of_block hP2; omega
    have hne2 : ¬ w1.heap.size = w2.heap.size := by have := lt_of_block hO2; omega
    have hw12 : w1.heap.size < w2.heap.size := lt_of_block hO2
    have hww : w.heap.size < w1.heap.size := lt_of_block HPW.out
    have HB21 := hide hb21
    clear hb2 hb21 hO2 hP2
    by_cases hm : more < 1
    · go_wp2_with fail
      go_ret
      exact ⟨rfl, HB2.out⟩
    by_cases hm3 : 1024 - (f : Int) < more
    · go_wp2_with fail
      go_ret
      exact ⟨rfl, HB2.out⟩
    obtain ⟨d, rfl⟩ : ∃ d : Nat, more = (d : Int) := ⟨more.toNat, by omega⟩
    have hd0 : 0 < d := by omega
    have hfd : f + d ≤ 1024 := by omega
    have hcm := check_more HC.out hfd
    have HW3 := hide (fun w3 (h3 : Cd w3 (.slice p xs.length cap) xs) (t3 : Tbs w3) => whole_s (fuel := f + d) HX.out h3 (by rw [show ((f + d : Nat) : Int) = (f : Int) + (d : Int) by omega]; exact hcm) (HP.out.more hfd) t3)
    simp only [show ((f + d : Nat) : Int) = (f : Int) + (d : Int) by omega] at HW3
    go_wp2_with fail
    have hW3 : Below w2.heap.size w2 (w2.alloc (.cells #[.int .i64 ((f : Int) + (d : Int)), .slice p xs.length cap] 24)) := below_one w2 _
    refine (HW3.out _ (HCd.out.below (HB2.out.trans (hW3.mono HB2.out.size)) (Nat.le_refl _)) ((HT.out.below HB2.out).below hW3)).mono ?_
    rintro e w4 ⟨x, rfl, hx4, hb4⟩
    have hb42 : Below w2.heap.size w2 w4 := hW3.trans (hb4.mono (by simp))
    have HB4 : Hid (Below w.heap.size w w4) := HB2.out.trans (hb42.mono HB2.out.size)
    have hO4 := (hb42.block _ hw12).trans HOB.out
    have HO4 := hide (HO2.out.below hb42)
    have hP4 : w4.cell? ⟨w.heap.size, 0, none⟩ = some (.int .i64 (f : Int)) := (hb42.cell (p := ⟨w.heap.size, 0, none⟩) (show w.heap.size < w2.heap.size by omega)).trans p0
    have HX4 := hide hx4
    have hb41 : Below w1.heap.size w1 w4 := HB21.out.trans (hb42.mono (by omega))
    have HS14 := hide (HS1.out.below hb41)
    have HS24 := hide (HS2.out.below hb41)
    clear hb4 hb42 hW3 HW3 o0 o1 o2 o3 o4 p0 p1 hb41
    obtain ⟨o0, o1, o2, o3, o4, -⟩ := five_of hO4
    have hl1 := end_len xs f
    have hl2 := end_len xs (f + d)
    have hFM := fuel_more hd0 HP.out
    have hcl1 := chk_len (Im.end_ xs f).2
    have hpl1 := pcs_len (Im.end_ xs f).2
    have hcl2 := chk_len (Im.end_ xs (f + d)).2
    have hpl2 := pcs_len (Im.end_ xs (f + d)).2
    obtain ⟨cv2, pv2, rfl, t1, t2⟩ := hx4
    have HT1 := hide t1
    have HT2 := hide t2
    obtain ⟨pc2, cc2, rfl, -, -⟩ := t1
    obtain ⟨pp2, cp2, rfl, -, -⟩ := t2
    have hO4l := lt_of_block hO4
    have hnx : ¬ w1.heap.size = w4.heap.size := by omega
    have hnw : ¬ w.heap.size = w4.heap.size := by omega
    rcases hFM with ⟨hne1, heq⟩ | ⟨hen, hdn, hlt2, t, htt⟩
    · rw [heq] at HX4 HT1 HT2 hl2
      have heq2 := heq
      simp only [heq] at *
      have hbn : (((Im.end_ xs f).1.en : Int) != 1) = true := by rw [bne_iff_ne]; omega
      have HSO := hide (fun w5 (k : Below w4.heap.size w4 w5) => sameOutcome_eq (HO4.out.below k) (HX4.out.below k) (by omega) (by omega))
      go_wp2_with fail
      refine (HSO.out _ (below_one w4 _)).mono ?_
      rintro e w6 ⟨rfl, hb6⟩
      go_wp2_with fail
      go_ret
      exact ⟨rfl, HB4.out.trans (((below_one w4 _).trans (hb6.mono (by simp))).mono HB4.out.size)⟩
    · have e_en : ((Im.end_ xs f).1.en : Int) = 1 := by rw [hen]; rfl
      have e_dn : ((Im.end_ xs f).1.dn : Int) = (f : Int) := by rw [hdn]
      rw [e_en] at o0
      rw [e_dn] at o4
      have q1 : Im.chk (Im.end_ xs f).2 ++ Im.chk t = Im.chk (Im.end_ xs (f + d)).2 := by rw [htt, chk_cat]
      have q2 : Im.pcs (Im.end_ xs f).2 ++ Im.pcs t = Im.pcs (Im.end_ xs (f + d)).2 := by rw [htt, pcs_cat]
      have HBC := hide (fun w5 (k : Below w4.heap.size w4 w5) => begins_eq (t := Im.chk t) (HS14.out.below k) (by rw [q1]; exact HT1.out.below k) (by rw [q1]; omega))
      have HBP := hide (fun w5 (k : Below w4.heap.size w4 w5) => begins_eq (t := Im.pcs t) (HS24.out.below k) (by rw [q2]; exact HT2.out.below k) (by rw [q2]; omega))
      have hl3 : (f : Int) < ((Im.end_ xs (f + d)).1.dn : Int) := by omega
      clear e_en e_dn hen hdn htt q1 q2 hlt2
      generalize Im.end_ xs (f + d) = E2 at *
      generalize Im.end_ xs f = E1 at *
      have hP5 := Lib.cell?_alloc_some (.cells #[.int .i64 (E2.1.en : Int), .int .u64 (Im.resB E2.1 : Int), .slice pc2 (Im.chk E2.2).length cc2, .slice pp2 (Im.pcs E2.2).length cp2, .int .i64 (E2.1.dn : Int)] 48) hP4
      have o45 := Lib.cell?_alloc_some (.cells #[.int .i64 (E2.1.en : Int), .int .u64 (Im.resB E2.1 : Int), .slice pc2 (Im.chk E2.2).length cc2, .slice pp2 (Im.pcs E2.2).length cp2, .int .i64 (E2.1.dn : Int)] 48) o4
      clear hm1 hm2 hm hm3 hl2 hcl2 hpl2 hl1 hcl1 hpl1 hcm
      go_wp2_with fail
      refine (HBC.out _ (below_one w4 _)).mono ?_
      rintro e w6 ⟨rfl, hb6⟩
      have hb64 : Below w4.heap.size w4 w6 := (below_one w4 _).trans (hb6.mono (by simp))
      have o36 := (hb64.cell (p := ⟨w1.heap.size, 3, none⟩) hO4l).trans o3
      have x36 : w6.cell? ⟨w4.heap.size, 3, none⟩ = some (.slice pp2 (Im.pcs E2.2).length cp2) := cell_of_block ((hb6.block w4.heap.size (by simp)).trans (heap_alloc_new w4 _)) rfl
      have HB64 := hide hb64
      clear hb6 hb64
      go_wp2_with fail
      refine (HBP.out _ HB64.out).mono ?_
      rintro e w7 ⟨rfl, hb7⟩
      go_wp2_with fail
      go_ret
      exact ⟨rfl, HB4.out.trans ((HB64.out.trans (hb7.mono HB64.out.size)).mono HB4.out.size)⟩
  · have HW := hide (fun w1 (h1 : Cd w1 v xs) => whole_no hx h1 hE)
    obtain ⟨p, cap, rfl, -⟩ := h
    generalize Pg.checkE fuel xs = E at *
    have hb : (E.1 != 0) = true := by rw [bne_iff_ne]; exact hE
    clear hx hT hE
    go_enter Tryz.func6, Tryz.ntmps6
    go_wp2_with fail
    refine (HW.out _ (HCd.out.below (below_one w _) (Nat.le_refl _))).mono ?_
    rintro e w1 ⟨rfl, hb1⟩
    have HB1 : Hid (Below w.heap.size w w1) := (below_one w _).trans (hb1.mono (by simp))
    clear hb1
    go_wp2_with fail
    refine (iawake_true _ ((HT.out.below HB1.out).below (below_one w1 _))).mono ?_
    rintro e w2 ⟨rfl, hb2⟩
    have HB2 : Hid (Below w.heap.size w w2) := HB1.out.trans (((below_one w1 _).trans (hb2.mono (by simp))).mono HB1.out.size)
    clear hb2
    go_wp2_with fail
    go_ret
    exact ⟨rfl, HB2.out⟩
end Go.Proofs.YthjngodkpldpfaaGreatDoor
end
