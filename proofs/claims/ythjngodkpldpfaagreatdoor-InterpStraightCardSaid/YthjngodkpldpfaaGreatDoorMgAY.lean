import Derived.Test.YthjngodkpldpfaaGreatDoorMgAX

section
namespace Go.Proofs.YthjngodkpldpfaaGreatDoor
open Go.RowKit Go.Shelf

/-- what Whole tells of a program that may be -/
theorem whole_s {w : World} {v : Value} {fuel : Nat} {xs : List In} (hx : ∀ x ∈ xs, x.Fits) (h : Cd w v xs) (hc : Pg.checkE fuel xs = (0, 0)) (hp : Pok fuel xs) (hT : Tbs w) :
    Calls Tryz.prog 17 #[.agg #[.int .i64 (fuel : Int), v]] w fun e w' => ∃ o, e = .returned (.tuple #[o, .int .i64 0]) ∧ OutS w' o (Im.end_ xs fuel).1.en (Im.resB (Im.end_ xs fuel).1) (Im.end_ xs fuel).1.dn (Im.chk (Im.end_ xs fuel).2) (Im.pcs (Im.end_ xs fuel).2) ∧ Below w.heap.size w w' :=
  (whole_ok hx h hc hp hT).mono fun _ _ ⟨o, h1, h2, h3⟩ => ⟨o, h1, by have := out_s h2; rw [resC_en] at this; exact this, h3⟩
theorem check_zz {f : Nat} {xs : List In} (hp : Pok f xs) (hE : (Pg.checkE (f : Int) xs).1 = 0) : Pg.checkE (f : Int) xs = (0, 0) := by
  have h1 := hp.f1; have h2 := hp.f2; have h3 := hp.l1; have h4 := hp.l2
  unfold Pg.checkE at hE ⊢
  rw [if_neg (by omega), if_neg (by omega)] at hE ⊢
  exact goE_ok _ _ _ hE
theorem Pok.more {f d : Nat} {xs : List In} (hp : Pok f xs) (hd : f + d ≤ 1024) : Pok (f + d) xs := ⟨by have := hp.f1; omega, hd, hp.l1, hp.l2, hp.good⟩
theorem end_len (xs : List In) (fuel : Nat) : (Im.end_ xs fuel).2.length ≤ fuel := itr_len _ _ _ _
set_option maxRecDepth 20000 in
set_option maxHeartbeats 4000000 in
theorem interpFuel_walk (fuel : Int) (xs : List In) (hx : ∀ x ∈ xs, x.Fits) (v : Value) (more : Int) (hm1 : -9223372036854775808 ≤ more) (hm2 : more ≤ 9223372036854775807) (w : World) (h : Cd w v xs) (hT : Tbs w) :
    Calls Tryz.prog 6 #[.agg #[.int .i64 fuel, v], .int .i64 more] w fun e w' => e = .returned (.bool true) ∧ Below w.heap.size w w' := by
  have HCd := hide h
  have HT := hide hT
  have HX := hide hx
  by_cases hE : (Pg.checkE fuel xs).1 = 0
  · obtain ⟨f, rfl, hp⟩ := pok_of hx hE
    have hc := check_zz hp hE
    have HP := hide hp
    have HC := hide hc
    have hf1 := hp.f1
    have hf2 := hp.f2
    obtain ⟨p, cap, rfl, -⟩ := h
    clear hE hp hc hx hT
    go_enter Tryz.func6, Tryz.ntmps6
    go_wp2_with fail
    refine (whole_s HX.out (HCd.out.below (below_one w _) (Nat.le_refl _)) HC.out HP.out (HT.out.below (below_one w _))).mono ?_
    rintro e w1 ⟨o, rfl, ho, hb1⟩
    have HO := hide ho
    obtain ⟨cv, pv, rfl, s1, s2⟩ := ho
    have HS1 := hide s1
    have HS2 := hide s2
    obtain ⟨pc1, cc1, rfl, -, -⟩ := s1
    obtain ⟨pp1, cp1, rfl, -, -⟩ := s2
    have HB1 : Hid (Below w.heap.size w w1) := (below_one w _).trans (hb1.mono (by simp))
    have hpw : w1.heap[w.heap.size]? = some (.cells #[.int .i64 (f : Int), .slice p xs.length cap] 24 (0, 0)) := (hb1.block w.heap.size (by simp)).trans (heap_alloc_new w _)
    have HPW := hide hpw
    clear hb1 hpw
    go_wp2_with fail
    refine (iawake_true _ ((HT.out.below HB1.out).below (below_one w1 _))).mono ?_
    rintro e w2 ⟨rfl, hb2⟩
    have hO2 : w2.heap[w1.heap.size]? = some (.cells #[.int .i64 ((Im.end_ xs f).1.en : Int), .int .u64 (Im.resB (Im.end_ xs f).1 : Int), .slice pc1 (Im.chk (Im.end_ xs f).2).length cc1, .slice pp1 (Im.pcs (Im.end_ xs f).2).length cp1, .int .i64 ((Im.end_ xs f).1.dn : Int)] 48 (0, 0)) := (hb2.block w1.heap.size (by simp)).trans (heap_alloc_new w1 _)
    have hb21 : Below w1.heap.size w1 w2 := (below_one w1 _).trans (hb2.mono (by simp))
    have hP2 := (hb21.block _ (lt_of_block HPW.out)).trans HPW.out
    have p0 : w2.cell? ⟨w.heap.size, 0, none⟩ = some (.int .i64 (f : Int)) := cell_of_block hP2 rfl
    have p1 : w2.cell? ⟨w.heap.size, 1, none⟩ = some (.slice p xs.length cap) := cell_of_block hP2 rfl
    have HO2 := hide (HO.out.below hb21)
    have HB2 : Hid (Below w.heap.size w w2) := HB1.out.trans (hb21.mono HB1.out.size)
    obtain ⟨o0, o1, o2, o3, o4, -⟩ := five_of hO2
    have HOB := hide hO2
    have hne : ¬ w.heap.size = w2.heap.size := by have := lt_of_block hP2; omega
    have hne2 : ¬ w1.heap.size = w2.heap.size := by have := lt_of_block hO2; omega
    have hw12 : w1.heap.size < w2.heap.size := lt_of_block hO2
    have hww : w.heap.size < w1.heap.size := lt_of_block HPW.out
    have HB21 := hide hb21
    clear hb2 hb21 hO2 hP2
    by_cases hm : more < 1
    · go_wp2_with fail
      go_ret
      exact ⟨rfl, HB2.out⟩
    by_cases hm3 : 1024 - (f : Int) < more
    · go_wp2_with fail
      go_ret
      exact ⟨rfl, HB2.out⟩
    obtain ⟨d, rfl⟩ : ∃ d : Nat, more = (d : Int) := ⟨more.toNat, by omega⟩
    have hd0 : 0 < d := by omega
    have hfd : f + d ≤ 1024 := by omega
    have hcm := check_more HC.out hfd
    have HW3 := hide (fun w3 (h3 : Cd w3 (.slice p xs.length cap) xs) (t3 : Tbs w3) => whole_s (fuel := f + d) HX.out h3 (by rw [show ((f + d : Nat) : Int) = (f : Int) + (d : Int) by omega]; exact hcm) (HP.out.more hfd) t3)
    simp only [show ((f + d : Nat) : Int) = (f : Int) + (d : Int) by omega] at HW3
    go_wp2_with fail
    have hW3 : Below w2.heap.size w2 (w2.alloc (.cells #[.int .i64 ((f : Int) + (d : Int)), .slice p xs.length cap] 24)) := below_one w2 _
    refine (HW3.out _ (HCd.out.below (HB2.out.trans (hW3.mono HB2.out.size)) (Nat.le_refl _)) ((HT.out.below HB2.out).below hW3)).mono ?_
    rintro e w4 ⟨x, rfl, hx4, hb4⟩
    have hb42 : Below w2.heap.size w2 w4 := hW3.trans (hb4.mono (by simp))
    have HB4 : Hid (Below w.heap.size w w4) := HB2.out.trans (hb42.mono HB2.out.size)
    have hO4 := (hb42.block _ hw12).trans HOB.out
    have HO4 := hide (HO2.out.below hb42)
    have hP4 : w4.cell? ⟨w.heap.size, 0, none⟩ = some (.int .i64 (f : Int)) := (hb42.cell (p := ⟨w.heap.size, 0, none⟩) (show w.heap.size < w2.heap.size by omega)).trans p0
    have HX4 := hide hx4
    have hb41 : Below w1.heap.size w1 w4 := HB21.out.trans (hb42.mono (by omega))
    have HS14 := hide (HS1.out.below hb41)
    have HS24 := hide (HS2.out.below hb41)
    clear hb4 hb42 hW3 HW3 o0 o1 o2 o3 o4 p0 p1 hb41
    obtain ⟨o0, o1, o2, o3, o4, -⟩ := five_of hO4
    have hl1 := end_len xs f
    have hl2 := end_len xs (f + d)
    have hFM := fuel_more hd0 HP.out
    have hcl1 := chk_len (Im.end_ xs f).2
    have hpl1 := pcs_len (Im.end_ xs f).2
    have hcl2 := chk_len (Im.end_ xs (f + d)).2
    have hpl2 := pcs_len (Im.end_ xs (f + d)).2
    obtain ⟨cv2, pv2, rfl, t1, t2⟩ := hx4
    have HT1 := hide t1
    have HT2 := hide t2
    obtain ⟨pc2, cc2, rfl, -, -⟩ := t1
    obtain ⟨pp2, cp2, rfl, -, -⟩ := t2
    have hO4l := lt_of_block hO4
    have hnx : ¬ w1.heap.size = w4.heap.size := by omega
    have hnw : ¬ w.heap.size = w4.heap.size := by omega
    rcases hFM with ⟨hne1, heq⟩ | ⟨hen, hdn, hlt2, t, htt⟩
    · rw [heq] at HX4 HT1 HT2 hl2
      have heq2 := heq
      simp only [heq] at *
      have hbn : (((Im.end_ xs f).1.en : Int) != 1) = true := by rw [bne_iff_ne]; omega
      have HSO := hide (fun w5 (k : Below w4.heap.size w4 w5) => sameOutcome_eq (HO4.out.below k) (HX4.out.below k) (by omega) (by omega))
      go_wp2_with fail
      refine (HSO.out _ (below_one w4 _)).mono ?_
      rintro e w6 ⟨rfl, hb6⟩
      go_wp2_with fail
      go_ret
      exact ⟨rfl, HB4.out.trans (((below_one w4 _).trans (hb6.mono (by simp))).mono HB4.out.size)⟩
    · have e_en : ((Im.end_ xs f).1.en : Int) = 1 := by rw [hen]; rfl
      have e_dn : ((Im.end_ xs f).1.dn : Int) = (f : Int) := by rw [hdn]
      rw [e_en] at o0
      rw [e_dn] at o4
      have q1 : Im.chk (Im.end_ xs f).2 ++ Im.chk t = Im.chk (Im.end_ xs (f + d)).2 := by rw [htt, chk_cat]
      have q2 : Im.pcs (Im.end_ xs f).2 ++ Im.pcs t = Im.pcs (Im.end_ xs (f + d)).2 := by rw [htt, pcs_cat]
      have HBC := hide (fun w5 (k : Below w4.heap.size w4 w5) => begins_eq (t := Im.chk t) (HS14.out.below k) (by rw [q1]; exact HT1.out.below k) (by rw [q1]; omega))
      have HBP := hide (fun w5 (k : Below w4.heap.size w4 w5) => begins_eq (t := Im.pcs t) (HS24.out.below k) (by rw [q2]; exact HT2.out.below k) (by rw [q2]; omega))
      have hl3 : (f : Int) < ((Im.end_ xs (f + d)).1.dn : Int) := by omega
      clear e_en e_dn hen hdn htt q1 q2 hlt2
      generalize Im.end_ xs (f + d) = E2 at *
      generalize Im.end_ xs f = E1 at *
      have hP5 := Lib.cell?_alloc_some (.cells #[.int .i64 (E2.1.en : Int), .int .u64 (Im.resB E2.1 : Int), .slice pc2 (Im.chk E2.2).length cc2, .slice pp2 (Im.pcs E2.2).length cp2, .int .i64 (E2.1.dn : Int)] 48) hP4
      have o45 := Lib.cell?_alloc_some (.cells #[.int .i64 (E2.1.en : Int), .int .u64 (Im.resB E2.1 : Int), .slice pc2 (Im.chk E2.2).length cc2, .slice pp2 (Im.pcs E2.2).length cp2, .int .i64 (E2.1.dn : Int)] 48) o4
      clear hm1 hm2 hm hm3 hl2 hcl2 hpl2 hl1 hcl1 hpl1 hcm
      go_wp2_with fail
      refine (HBC.out _ (below_one w4 _)).mono ?_
      rintro e w6 ⟨rfl, hb6⟩
      have hb64 : Below w4.heap.size w4 w6 := (below_one w4 _).trans (hb6.mono (by simp))
      have o36 := (hb64.cell (p := ⟨w1.heap.size, 3, none⟩) hO4l).trans o3
      have x36 : w6.cell? ⟨w4.heap.size, 3, none⟩ = some (.slice pp2 (Im.pcs E2.2).length cp2) := cell_of_block ((hb6.block w4.heap.size (by simp)).trans (heap_alloc_new w4 _)) rfl
      have HB64 := hide hb64
      clear hb6 hb64
      go_wp2_with fail
      refine (HBP.out _ HB64.out).mono ?_
      rintro e w7 ⟨rfl, hb7⟩
      go_wp2_with fail
      go_ret
      exact ⟨rfl, HB4.out.trans ((HB64.out.trans (hb7.mono HB64.out.size)).mono HB4.out.size)⟩
  · have HW := hide (fun w1 (h1 : Cd w1 v xs) => whole_no hx h1 hE)
    obtain ⟨p, cap, rfl, -⟩ := h
    generalize Pg.checkE fuel xs = E at *
    have hb : (E.1 != 0) = true := by rw [bne_iff_ne]; exact hE
    clear hx hT hE
    go_enter Tryz.func6, Tryz.ntmps6
    go_wp2_with fail
    refine (HW.out _ (HCd.out.below (below_one w _) (Nat.le_refl _))).mono ?_
    rintro e w1 ⟨rfl, hb1⟩
    have HB1 : Hid (Below w.heap.size w w1) := (below_one w _).trans (hb1.mono (by simp))
    clear hb1
    go_wp2_with fail
    refine (iawake_true _ ((HT.out.below HB1.out).below (below_one w1 _))).mono ?_
    rintro e w2 ⟨rfl, hb2⟩
    have HB2 : Hid (Below w.heap.size w w2) := HB1.out.trans (((below_one w1 _).trans (hb2.mono (by simp))).mono HB1.out.size)
    clear hb2
    go_wp2_with fail
    go_ret
    exact ⟨rfl, HB2.out⟩
end Go.Proofs.YthjngodkpldpfaaGreatDoor
end

section
namespace Go.Proofs.YthjngodkpldpfaaGreatDoor
open Go.RowKit Go.Shelf

/-- no jump -/
def njmp (op : Int) : Prop := op ≠ 14 ∧ op ≠ 15 ∧ op ≠ 16 ∧ op ≠ 17 ∧ op ≠ 18
theorem hl_le (xs : List In) : ∀ k, Im.hl xs k ≤ xs.length
  | 0 => Nat.le_refl _
  | k + 1 => by
    have ih := hl_le xs k
    unfold Im.hl
    split <;> omega
theorem cnt_le (xs : List In) (op : Int) (k : Nat) : Im.cnt xs op k ≤ k := by
  unfold Im.cnt
  refine Nat.le_trans List.countP_le_length ?_
  rw [List.length_take]; omega
set_option maxRecDepth 20000 in
set_option maxHeartbeats 4000000 in
theorem interpStraight_walk (fuel : Int) (xs : List In) (hx : ∀ x ∈ xs, x.Fits) (v : Value) (w : World) (h : Cd w v xs) (hT : Tbs w) :
    Calls Tryz.prog 7 #[.agg #[.int .i64 fuel, v]] w fun e w' => e = .returned (.bool true) ∧ Below w.heap.size w w' := by
  have HCd := hide h
  have HT := hide hT
  have HX := hide hx
  by_cases hE : (Pg.checkE fuel xs).1 = 0
  · obtain ⟨f, rfl, hp⟩ := pok_of hx hE
    have hc := check_zz hp hE
    have HP := hide hp
    have HC := hide hc
    have hf1 := hp.f1
    have hf2 := hp.f2
    have hl1 := hp.l1
    have hl2 := hp.l2
    obtain ⟨p, cap, rfl, h2⟩ := h
    obtain ⟨gb, go_, rfl, hgl, hgc⟩ := h2 (by omega)
    have HGC := hide hgc
    clear hE hp hc hx hT hgc h2
    go_enter Tryz.func7, Tryz.ntmps7
    go_wp2_with fail
    refine (whole_s HX.out (HCd.out.below (below_one w _) (Nat.le_refl _)) HC.out HP.out (HT.out.below (below_one w _))).mono ?_
    rintro e w1 ⟨o, rfl, ho, hb1⟩
    obtain ⟨cv, pv, rfl, s1, s2⟩ := ho
    obtain ⟨pc1, cc1, rfl, -, -⟩ := s1
    obtain ⟨pp1, cp1, rfl, -, -⟩ := s2
    have HB1 : Hid (Below w.heap.size w w1) := (below_one w _).trans (hb1.mono (by simp))
    have hpw : w1.heap[w.heap.size]? = some (.cells #[.int .i64 (f : Int), .slice (some ⟨gb, go_, none⟩) xs.length cap] 24 (0, 0)) := (hb1.block w.heap.size (by simp)).trans (heap_alloc_new w _)
    have HPW := hide hpw
    clear hb1 hpw
    go_wp2_with fail
    refine (iawake_true _ ((HT.out.below HB1.out).below (below_one w1 _))).mono ?_
    rintro e w2 ⟨rfl, hb2⟩
    have hO2 := (hb2.block w1.heap.size (by simp)).trans (heap_alloc_new w1 _)
    have hb21 : Below w1.heap.size w1 w2 := (below_one w1 _).trans (hb2.mono (by simp))
    have hP2 := (hb21.block _ (lt_of_block HPW.out)).trans HPW.out
    have p0 : w2.cell? ⟨w.heap.size, 0, none⟩ = some (.int .i64 (f : Int)) := cell_of_block hP2 rfl
    have p1 : w2.cell? ⟨w.heap.size, 1, none⟩ = some (.slice (some ⟨gb, go_, none⟩) xs.length cap) := cell_of_block hP2 rfl
    have HB2 : Hid (Below w.heap.size w w2) := HB1.out.trans (hb21.mono HB1.out.size)
    obtain ⟨o0, o1, o2, o3, o4, -⟩ := five_of hO2
    have hd1 := end_dn HP.out
    have HSE := hide (fun hs => straight_end (f := f) (xs := xs) hs HP.out)
    clear hb2 hb21 hO2 hP2
    generalize Im.end_ xs f = I at *
    have hst : ¬ (I.1.dn : Int) < 1 := by omega
    have HSI : Hid True := trivial
    have hpl : w.heap.size < w2.heap.size := by have := World.block_lt_of_cell? _ _ p0; exact this
    have hgb2 : gb < w2.heap.size := Nat.lt_of_lt_of_le hgl HB2.out.size
    have HC2 : Hid (∀ k, k < xs.length → w2.cell? ⟨gb, go_ + k * 6, none⟩ = some (.int .i64 xs[k]!.op)) := fun k hk => (HB2.out.cell (p := ⟨gb, go_ + k * 6, none⟩) hgl).trans (HGC.out k hk 0 _ rfl)
    clear HP HC HT HX HCd HPW HGC HB1 HSI
    go_wp2_with fail
    go_quiet (fail)
    go_wp2_with fail
    go_loopw [7, 8] (fun h t wr => ∃ k q : Nat, h = .int .i64 (Im.hl xs k : Int) ∧ t = .int .i64 (k : Int) ∧ k ≤ xs.length ∧ (∀ j, j < k → njmp xs[j]!.op) ∧ wr = w2.drewN q) (fun _ t _ => xs.length - (intOf t).toNat)
    case atStart => exact ⟨0, _, rfl, rfl, Nat.zero_le _, fun j hj => absurd hj (by omega), rfl⟩
    case round =>
      obtain ⟨k, q, rfl, rfl, hkl, hnj, rfl⟩ := hrel
      have HNJ := hide hnj
      clear hnj
      by_cases hlt : k < xs.length
      · have c0 := HC2.out k hlt
        have hki : (k : Int) < (xs.length : Int) := by omega
        have hhl := hl_le xs k
        have hsu : Im.hl xs (k + 1) = if xs[k]!.op = 24 ∨ xs[k]!.op = 23 then min (Im.hl xs k) (k + 1) else Im.hl xs k := rfl
        obtain ⟨op, hop⟩ : ∃ op, xs[k]!.op = op := ⟨_, rfl⟩
        rw [hop] at c0 hsu
        have HOP := hide hop
        clear hop
        have HDR := hide (HB2.out.trans ((bd_drew w2 q).mono HB2.out.size))
        by_cases hj : njmp op
        · have f1 : (op == 14) = false := beq_eq_false_iff_ne.mpr hj.1
          have f2 : (op == 15) = false := beq_eq_false_iff_ne.mpr hj.2.1
          have f3 : (op == 16) = false := beq_eq_false_iff_ne.mpr hj.2.2.1
          have f4 : (op == 17) = false := beq_eq_false_iff_ne.mpr hj.2.2.2.1
          have f5 : (op == 18) = false := beq_eq_false_iff_ne.mpr hj.2.2.2.2
          have HNJ2 : Hid (∀ j, j < k + 1 → njmp xs[j]!.op) := fun j hj' => by
            by_cases e : j = k
            · subst e; rw [HOP.out]; exact hj
            · exact HNJ.out j (by omega)
          clear hj HNJ HOP
          by_cases h24 : op = 24 ∨ op = 23
          · rw [if_pos h24] at hsu
            have HSU := hide hsu
            clear hsu
            generalize Im.hl xs k = hh at *
            rcases h24 with rfl | rfl
            · clear f1 f2 f3 f4 f5
              go_wp2_with fail
              go_roundw
              case rel => exact ⟨k + 1, _, by rw [HSU.out]; go_num, by go_num, by omega, HNJ2.out, rfl⟩
              case measure => simp [intOf]; omega
            · clear f1 f2 f3 f4 f5
              go_wp2_with fail
              go_roundw
              case rel => exact ⟨k + 1, _, by rw [HSU.out]; go_num, by go_num, by omega, HNJ2.out, rfl⟩
              case measure => simp [intOf]; omega
          · rw [if_neg h24] at hsu
            have HSU := hide hsu
            have f6 : (op == 24) = false := beq_eq_false_iff_ne.mpr (fun e => h24 (.inl e))
            have f7 : (op == 23) = false := beq_eq_false_iff_ne.mpr (fun e => h24 (.inr e))
            clear hsu h24
            generalize Im.hl xs k = hh at *
            go_wp2_with fail
            go_roundw
            case rel => exact ⟨k + 1, _, by rw [HSU.out], by go_num, by omega, HNJ2.out, rfl⟩
            case measure => simp [intOf]; omega
        · have h5 : op = 14 ∨ op = 15 ∨ op = 16 ∨ op = 17 ∨ op = 18 := by unfold njmp at hj; omega
          clear hj hsu HOP HNJ
          generalize Im.hl xs k = hh at *
          rcases h5 with rfl | rfl | rfl | rfl | rfl
          all_goals go_wp2_with fail
          all_goals go_ret
          all_goals exact ⟨rfl, HDR.out⟩
      · obtain rfl : k = xs.length := by omega
        have hki : ¬ (xs.length : Int) < (xs.length : Int) := by omega
        have hse := HSE.out (fun x hx => by
          obtain ⟨j, hj, rfl⟩ := List.getElem_of_mem hx
          have := HNJ.out j hj
          rw [getElem!_pos xs j hj] at this
          exact this)
        have d1 := hse.d1
        have d2 := hse.d2
        have HH := hide hse.how
        have HDR := hide (HB2.out.trans ((bd_drew w2 q).mono HB2.out.size))
        have hn1 : ¬ (xs.length : Int) < (I.1.dn : Int) := by omega
        clear hse HNJ HSE
        generalize Im.hl xs xs.length = hh at *
        go_wp2_with fail
        go_loopw [5, 6, 9] (fun a b t wr => ∃ k q : Nat, a = .int .i64 (Im.cnt xs 21 k : Int) ∧ b = .int .i64 (Im.cnt xs 22 k : Int) ∧ t = .int .i64 (k : Int) ∧ k ≤ I.1.dn ∧ wr = w2.drewN q) (fun _ _ t _ => I.1.dn - (intOf t).toNat)
        case atStart => exact ⟨0, _, by simp [Im.cnt], by simp [Im.cnt], rfl, Nat.zero_le _, rfl⟩
        case round =>
          obtain ⟨k, q, rfl, rfl, rfl, hkl, rfl⟩ := hrel
          have HDR2 := hide (HB2.out.trans ((bd_drew w2 q).mono HB2.out.size))
          by_cases hlt : k < I.1.dn
          · have hkx : k < xs.length := by omega
            have c0 := HC2.out k hkx
            have hki : (k : Int) < (xs.length : Int) := by omega
            have hki2 : (k : Int) < (I.1.dn : Int) := by omega
            have n1 := cnt_succ (op := 21) hkx
            have n2 := cnt_succ (op := 22) hkx
            have b1 := cnt_le xs 21 k
            have b2 := cnt_le xs 22 k
            have HN1 := hide n1
            have HN2 := hide n2
            clear n1 n2 HH
            generalize xs[k]!.op = op at *
            generalize Im.cnt xs 21 k = ca at *
            generalize Im.cnt xs 22 k = cb at *
            have hb1 : (ca : Int) + 1 ≤ 9223372036854775807 := by omega
            have hb2 : (cb : Int) + 1 ≤ 9223372036854775807 := by omega
            by_cases q1 : op = 21
            · subst q1
              go_wp2_with fail
              go_roundw
              case rel => exact ⟨k + 1, _, by rw [HN1.out, if_pos rfl]; go_num, by rw [HN2.out, if_neg (by decide)]; go_num, by go_num, by omega, rfl⟩
              case measure => simp [intOf]; omega
            by_cases q2 : op = 22
            · subst q2
              clear q1
              go_wp2_with fail
              go_roundw
              case rel => exact ⟨k + 1, _, by rw [HN1.out, if_neg (by decide)]; go_num, by rw [HN2.out, if_pos rfl]; go_num, by go_num, by omega, rfl⟩
              case measure => simp [intOf]; omega
            have f1 : (op == 21) = false := beq_eq_false_iff_ne.mpr q1
            have f2 : (op == 22) = false := beq_eq_false_iff_ne.mpr q2
            have HQ1 := hide q1
            have HQ2 := hide q2
            clear q1 q2
            go_wp2_with fail
            go_roundw
            case rel => exact ⟨k + 1, _, by rw [HN1.out, if_neg HQ1.out]; go_num, by rw [HN2.out, if_neg HQ2.out]; go_num, by go_num, by omega, rfl⟩
            case measure => simp [intOf]; omega
          · obtain rfl : k = I.1.dn := by omega
            have hki2 : ¬ (I.1.dn : Int) < (I.1.dn : Int) := by omega
            rcases HH.out with ⟨hen, h1, h2, h3, h4⟩ | ⟨hen, h1, h2, h3, h4⟩ | ⟨hen, h1, h2, h3⟩ | ⟨h1, h2⟩
            · subst h1
              have h2i : (I.1.dn : Int) ≤ (f : Int) := by omega
              rw [h3] at o2
              rw [h4] at o3
              clear h3 h4 HH
              generalize Im.cnt xs 21 I.1.dn = ca at *
              generalize Im.cnt xs 22 I.1.dn = cb at *
              rcases hen with hen | hen
              · have e0 : (I.1.en : Int) = 0 := by omega
                rw [e0] at o0
                clear hen e0
                go_wp2_with fail
                go_ret
                exact ⟨rfl, HDR2.out⟩
              · have e0 : (I.1.en : Int) = 7 := by omega
                rw [e0] at o0
                clear hen e0
                go_wp2_with fail
                go_ret
                exact ⟨rfl, HDR2.out⟩
            · subst h1
              have h2i : (I.1.dn : Int) < (hh : Int) := by omega
              have e0 : (I.1.en : Int) = 1 := by omega
              rw [e0] at o0
              rw [h3] at o2
              rw [h4] at o3
              clear h3 h4 HH hen e0
              generalize Im.cnt xs 21 I.1.dn = ca at *
              generalize Im.cnt xs 22 I.1.dn = cb at *
              go_wp2_with fail
              go_ret
              exact ⟨rfl, HDR2.out⟩
            · obtain ⟨j, hj⟩ : ∃ j, I.1.dn = j + 1 := ⟨I.1.dn - 1, by omega⟩
              have c0 := HC2.out j (by omega)
              rw [hj, Nat.add_sub_cancel] at h3
              have hji : (j : Int) < (xs.length : Int) := by omega
              have h1i : (j : Int) + 1 ≤ (hh : Int) := by omega
              have h2i : (j : Int) + 1 ≤ (f : Int) := by omega
              have e4 : (I.1.dn : Int) = (j : Int) + 1 := by omega
              rw [e4] at o4
              have hki3 : ¬ (j : Int) + 1 < (j : Int) + 1 := by omega
              rw [e4]
              generalize xs[j]!.op = op at *
              generalize (Im.cnt xs 21 I.1.dn : Int) = ca at *
              generalize (Im.cnt xs 22 I.1.dn : Int) = cb at *
              rcases hen with hen | hen
              · have e0 : (I.1.en : Int) = 2 := by omega
                rw [e0] at o0
                clear hen e0 HH
                rcases h3 with rfl | rfl
                all_goals go_wp2_with fail
                all_goals go_ret
                all_goals exact ⟨rfl, HDR2.out⟩
              · have e0 : (I.1.en : Int) = 3 := by omega
                rw [e0] at o0
                clear hen e0 HH
                rcases h3 with rfl | rfl
                all_goals go_wp2_with fail
                all_goals go_ret
                all_goals exact ⟨rfl, HDR2.out⟩
            · have h1i : (I.1.dn : Int) ≤ (hh : Int) := by omega
              generalize (Im.cnt xs 21 I.1.dn : Int) = ca at *
              generalize (Im.cnt xs 22 I.1.dn : Int) = cb at *
              rcases h2 with ⟨hen, h3⟩ | ⟨hen, h3⟩
              · have e0 : (I.1.en : Int) = 5 := by omega
                rw [e0] at o0
                rw [h3] at o2
                clear hen e0 HH h3
                go_wp2_with fail
                go_ret
                exact ⟨rfl, HDR2.out⟩
              · have e0 : (I.1.en : Int) = 6 := by omega
                rw [e0] at o0
                rw [h3] at o3
                clear hen e0 HH h3
                go_wp2_with fail
                go_ret
                exact ⟨rfl, HDR2.out⟩
  · have HW := hide (fun w1 (h1 : Cd w1 v xs) => whole_no hx h1 hE)
    obtain ⟨p, cap, rfl, -⟩ := h
    generalize Pg.checkE fuel xs = E at *
    have hb : (E.1 != 0) = true := by rw [bne_iff_ne]; exact hE
    clear hx hT hE
    go_enter Tryz.func7, Tryz.ntmps7
    go_wp2_with fail
    refine (HW.out _ (HCd.out.below (below_one w _) (Nat.le_refl _))).mono ?_
    rintro e w1 ⟨rfl, hb1⟩
    have HB1 : Hid (Below w.heap.size w w1) := (below_one w _).trans (hb1.mono (by simp))
    clear hb1
    go_wp2_with fail
    refine (iawake_true _ ((HT.out.below HB1.out).below (below_one w1 _))).mono ?_
    rintro e w2 ⟨rfl, hb2⟩
    have HB2 : Hid (Below w.heap.size w w2) := HB1.out.trans (((below_one w1 _).trans (hb2.mono (by simp))).mono HB1.out.size)
    clear hb2
    go_wp2_with fail
    go_ret
    exact ⟨rfl, HB2.out⟩
end Go.Proofs.YthjngodkpldpfaaGreatDoor
end
