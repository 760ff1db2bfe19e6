import Derived.Test.YthjngodkpldpfaaGreatDoorMgAW
import Derived.Deep.WholeRow

section
namespace Go.Proofs.YthjngodkpldpfaaGreatDoor
open Go.RowKit Go.Shelf

theorem grown_high {a b c : World} {r : Option Nat} (h : a.grownBy b none) (k : b.grownBy c r) (hr : ∀ g, r = some g → a.heap.size ≤ g) : a.grownBy c none :=
  ⟨k.os.trans h.os, k.tape.trans h.tape, k.output.trans h.output, Nat.le_trans h.size k.size, fun i hi hn => (k.block i (Nat.lt_of_lt_of_le hi h.size) (fun e => absurd (hr i e.symm) (by omega))).trans (h.block i hi hn)⟩
theorem two_block {wr w7 : World} {Q T : Nat} {r : Option Nat} {cs : Array Value} {o1 o2 : Obj} (h : ((wr.alloc o1).alloc o2).grownBy w7 r) (hr : r ≠ some Q) (hQ : wr.heap[Q]? = some (.cells cs T (0, 0))) : w7.heap[Q]? = some (.cells cs T (0, 0)) := by
  have hl := lt_of_block hQ
  exact (h.block Q (by rw [World.size_alloc, World.size_alloc]; omega) (fun e => hr e.symm)).trans ((heap_alloc_old _ _ (by rw [World.size_alloc]; omega)).trans ((heap_alloc_old _ _ hl).trans hQ))
theorem two_of {w : World} {Q T : Nat} {a b : Value} (h : w.heap[Q]? = some (.cells #[a, b] T (0, 0))) : w.cell? ⟨Q, 1, none⟩ = some b ∧ w.frozen? ⟨Q, 1, none⟩ = false ∧ Q < w.heap.size :=
  ⟨by simp [World.cell?, h], by simp [World.frozen?, h], lt_of_block h⟩
theorem bools_set (l : List Bool) (k : Nat) : some (Obj.cells ((l.map Value.bool).toArray.setIfInBounds k (.bool true)) 67 (0, 0)) = some (Obj.cells ((l.set k true).map Value.bool).toArray 67 (0, 0)) := by simp [List.map_set]
attribute [-simp] Tryz.zeroValue67
set_option maxRecDepth 20000 in
set_option maxHeartbeats 8000000 in
theorem interpSpare_walk (fuel : Int) (xs : List In) (hx : ∀ x ∈ xs, x.Fits) (v : Value) (ms : List In) (hms : ∀ x ∈ ms, x.Fits) (mv : Value) (w : World) (h : Cd w v xs) (hN : Cd w mv ms) (hT : Tbs w) :
    Calls Tryz.prog 8 #[.agg #[.int .i64 fuel, v], mv] w fun e w' => e = .returned (.bool true) ∧ Below w.heap.size w w' := by
  have HCd := hide h
  have HT := hide hT
  have HX := hide hx
  have HN := hide hN
  have HMS := hide hms
  obtain ⟨rp, rcap, rfl, hmw⟩ := hN
  have HMW := hide hmw
  clear hmw
  by_cases hE : (Pg.checkE fuel xs).1 = 0
  · obtain ⟨f, rfl, hp⟩ := pok_of hx hE
    have hc := check_zz hp hE
    have HP := hide hp
    have HC := hide hc
    have hf1 := hp.f1
    have hf2 := hp.f2
    have hl1 := hp.l1
    have hl2 := hp.l2
    obtain ⟨p, cap, rfl, hcw⟩ := h
    have HCW := hide hcw
    clear hcw
    clear hE hp hc hx hT
    go_enter Tryz.func8, Tryz.ntmps8
    go_wp2_with fail
    refine (new_ok HX.out (HCd.out.below (below_one w _) (Nat.le_refl _)) HC.out (by omega) hl2).mono ?_
    rintro e w1 ⟨B, v1, rfl, hmb, hcd, hB, hb1⟩
    simp only [World.size_alloc] at hB
    have hB' : w.heap.size ≤ B := by omega
    have HB1 : Hid (Below w.heap.size w w1) := (below_one w _).trans (hb1.mono (by simp))
    have hpw : w1.heap[w.heap.size]? = some (.cells #[.int .i64 (f : Int), .slice p xs.length cap] 24 (0, 0)) := (hb1.block w.heap.size (by simp)).trans (heap_alloc_new w _)
    have HPW := hide hpw
    have p0 : w1.cell? ⟨w.heap.size, 0, none⟩ = some (.int .i64 (f : Int)) := cell_of_block hpw rfl
    have p1 : w1.cell? ⟨w.heap.size, 1, none⟩ = some (.slice p xs.length cap) := cell_of_block hpw rfl
    have HM1 := hide hmb
    have HC1 := hide hcd
    clear hb1 hpw hmb hcd
    go_wp2_with fail
    refine (whole_s HX.out (HCd.out.below HB1.out (Nat.le_refl _)) HC.out HP.out (HT.out.below HB1.out)).mono ?_
    rintro e w2 ⟨o, rfl, ho, hb2⟩
    have HO := hide ho
    obtain ⟨cv0, pv0, rfl, s1, s2⟩ := ho
    have HS1 := hide s1
    have HS2 := hide s2
    obtain ⟨pc1, cc1, rfl, -, -⟩ := s1
    obtain ⟨pp1, cp1, rfl, -, -⟩ := s2
    have HB2 : Hid (Below w.heap.size w w2) := HB1.out.trans (hb2.mono HB1.out.size)
    have HB12 := hide hb2
    clear hb2 p0 p1
    go_wp2_with fail
    refine (iawake_true _ ((HT.out.below HB2.out).below (below_one w2 _))).mono ?_
    rintro e w3 ⟨rfl, hb3⟩
    have hO3 : w3.heap[w2.heap.size]? = some (.cells #[.int .i64 ((Im.end_ xs f).1.en : Int), .int .u64 (Im.resB (Im.end_ xs f).1 : Int), .slice pc1 (Im.chk (Im.end_ xs f).2).length cc1, .slice pp1 (Im.pcs (Im.end_ xs f).2).length cp1, .int .i64 ((Im.end_ xs f).1.dn : Int)] 48 (0, 0)) := (hb3.block w2.heap.size (by simp)).trans (heap_alloc_new w2 _)
    have HOB := hide hO3
    have hb23 : Below w2.heap.size w2 w3 := (below_one w2 _).trans (hb3.mono (by simp))
    have hb13 : Below w1.heap.size w1 w3 := HB12.out.trans (hb23.mono HB12.out.size)
    have HB3 : Hid (Below w.heap.size w w3) := HB1.out.trans (hb13.mono HB1.out.size)
    have HM3 := hide (HM1.out.below hb13 HM1.out.lt)
    have HC3 := hide (HC1.out.grown (grown_below hb13 _))
    have HE3 : Hid (Env w3 B) := HT.out.env HB3.out hB'
    have HP3 := hide ((hb13.block _ (lt_of_block HPW.out)).trans HPW.out)
    have HS13 := hide (HS1.out.below hb23)
    have HS23 := hide (HS2.out.below hb23)
    have HN3 := hide (HN.out.below HB3.out (Nat.le_refl _))
    have hBl : B < w3.heap.size := HM3.out.lt
    have hO3l : w2.heap.size < w3.heap.size := lt_of_block hO3
    have hB2l : B < w2.heap.size := Nat.lt_of_lt_of_le HM1.out.lt HB12.out.size
    clear hb3 hb23 hb13 HM1 HC1 HB1 HB2 HB12 HS1 HS2 HO HPW hO3
    have HI0 := hide (m0_ok xs.length f hl1 hf1)
    have hEE : Im.end_ xs f = Im.end_ xs f := rfl
    generalize hEq : Im.end_ xs f = EE at *
    have HEE := hide hEq
    clear hEE hEq
    clear hms
    obtain ⟨zc, hzc⟩ : ∃ zc : Array Value, zc = Array.replicate 64 (.bool false) := ⟨_, rfl⟩
    have hzs : zc.size = 64 := by rw [hzc]; rfl
    have hzi : (Tryz.prog.info? 67).map (·.size) = some zc.size := by rw [hzs]; kernel_rfl
    have hz1 : zc.all (·.oneCell') = true := by rw [hzc]; kernel_rfl
    have hZV : ∀ w, (zeroValue 67).run Tryz.prog w = .ok (.agg zc) w := by rw [hzc]; exact (zero_of_info (P := Tryz.prog) (n := 64) (by kernel_rfl)).1
    have hBD : ∀ w, (Instr.build 67 #[]).run Tryz.prog w = .ok (.agg zc) w := fun w => by rw [hzc]; exact run_build w 67 #[] _ (by kernel_rfl)
    have hST : (storeCells ⟨w3.heap.size, 0, none⟩ zc.toList 0).run Tryz.prog (w3.alloc (.cells zc 67)) = .ok () (w3.alloc (.cells zc 67)) := run_storeCells_new w3 67 zc zc hzi rfl hz1
    have hne : zc ≠ #[] := fun e => by rw [e] at hzs; cases hzs
    have HZC := hide hzc
    clear hzc hzi hz1
    go_wp2_with fail
    go_loopw [10] (fun t wr => ∃ i : Nat, t = .int .i64 (i : Int) ∧ i ≤ f ∧ Hid (Mb wr B (Im.itr xs f Im.m0 i).1 v1 f) ∧ Hid (wr.heap[w3.heap.size]? = some (.cells ((Im.dons xs f i).map Value.bool).toArray 67 (0, 0))) ∧ Hid (w3.grownBy wr (some B))) (fun t _ => f - (intOf t).toNat)
    case atStart =>
      refine ⟨0, rfl, Nat.zero_le _, HM3.out.grown (grown_one w3 _ none) (by simp), ?_, grown_one w3 _ _⟩
      have e : ((Im.dons xs f 0).map Value.bool).toArray = zc := by rw [HZC.out]; unfold Im.dons; rw [List.map_replicate, List.toArray_replicate]
      rw [e]
      exact heap_alloc_new w3 _
    case round =>
      obtain ⟨i, rfl, hif, HMn, HDn, HGn⟩ := hrel
      have hok := itr_ok HI0.out HP.out.good i
      have hnx : Im.itr xs f Im.m0 (i + 1) = Im.nxt xs f (Im.itr xs f Im.m0 i) := rfl
      have hdx : Im.dons xs f (i + 1) = (Im.dons xs f i).set (Im.itr xs f Im.m0 i).1.pl true := rfl
      have hdl := dons_len xs f i
      obtain ⟨I, hI⟩ : ∃ I, Im.itr xs f Im.m0 i = I := ⟨_, rfl⟩
      rw [hI] at HMn hok hnx hdx
      have HNX := hide hnx
      have HDX := hide hdx
      have HI := hide hI
      have hps := (HGn.out.block _ (lt_of_block HP3.out) (by simp; omega)).trans HP3.out
      have p0 : wr.cell? ⟨w.heap.size, 0, none⟩ = some (.int .i64 (f : Int)) := cell_of_block hps rfl
      have p1 : wr.cell? ⟨w.heap.size, 1, none⟩ = some (.slice p xs.length cap) := cell_of_block hps rfl
      have hszn := HGn.out.size
      have hplr : w.heap.size < wr.heap.size := by omega
      have HOK := hide hok
      have hDl : w3.heap.size < wr.heap.size := lt_of_block HDn.out
      clear hI hok hps hnx hdx
      by_cases hrun : i < f ∧ I.1.ov = false
      · obtain ⟨hlt, ho⟩ := hrun
        have hlv := HOK.out.live ho
        have hif2 : (i : Int) < (f : Int) := by omega
        have hpx : (I.1.pl : Int) < (xs.length : Int) := by omega
        have hx64 : ¬ (64 : Int) < (xs.length : Int) := by omega
        have hp0 : ¬ (I.1.pl : Int) < 0 := by omega
        have hp64 : I.1.pl < 64 := by omega
        have HOv : Hid (Calls Tryz.prog 20 #[.pointer (some ⟨B, 0, none⟩)] wr fun e w' => e = .returned (.bool false) ∧ w' = wr) := by have := over_any HMn.out; rw [ho] at this; exact this
        have HPl : Hid (∀ q, Calls Tryz.prog 28 #[.pointer (some ⟨B, 0, none⟩)] (wr.drewN q) fun e w' => e = .returned (.int .i64 (I.1.pl : Int)) ∧ w' = wr.drewN q) := fun q => place_any (HMn.out.below (bd_drew wr q) HMn.out.lt)
        go_wp2_with fail
        refine HOv.out.mono ?_
        rintro e wx ⟨rfl, hwx⟩
        rw [hwx]
        clear hwx wx HOv
        go_wp2_with fail
        go_quiet ((go_at_call 28; exact Calls.quiet_of_same (HPl.out _)))
        have HMq := hide (HMn.out.below (bd_drew wr nq) HMn.out.lt)
        have HGq := hide (grown_trans HGn.out (grown_below (bd_drew wr nq) (some B)))
        have HDq := hide (((bd_drew wr nq).block _ hDl).trans HDn.out)
        have hDlq : w3.heap.size < (wr.drewN nq).heap.size := hDl
        clear HMn HGn HDn HPl p0 p1 hplr
        generalize wr.drewN nq = W at *
        have HP2 := hide (place_any HMq.out)
        have cD : W.cell? ⟨w3.heap.size, I.1.pl, none⟩ = some (.bool (Im.dons xs f i)[I.1.pl]!) := by
          refine cell_of_block HDq.out ?_
          simp only [List.getElem?_toArray, List.getElem?_map]
          rw [List.getElem?_eq_getElem (by omega), getElem!_pos _ _ (by omega)]
          rfl
        have zD : W.frozen? ⟨w3.heap.size, I.1.pl, none⟩ = false := by simp [World.frozen?, HDq.out]
        have hi64 : (I.1.pl : Int) < 64 := by omega
        have hi0 : (0 : Int) ≤ (I.1.pl : Int) := by omega
        generalize (Im.dons xs f i)[I.1.pl]! = db at *
        go_wp2_with fail
        refine HP2.out.mono ?_
        rintro e wx ⟨rfl, hwx⟩
        rw [hwx]
        clear hwx wx HP2
        have gS := grown_set W w3.heap.size I.1.pl (.bool true)
        have hG' := grown_low HGq.out gS (fun g e => by injection e with e; omega)
        have HG' := hide hG'
        have HS := hide (step_live (HMq.out.grown gS (by simp; omega)) ho HOK.out HP.out.good (HC3.out.grown hG') (HE3.out.grown hG') (by omega) (by omega))
        have HBS := hide (block_set HDq.out I.1.pl (.bool true))
        clear gS hG'
        go_wp2_with fail
        refine HS.out.mono ?_
        rintro e w6 ⟨rfl, hm6, hg6⟩
        have HM6 := hide hm6
        have HG6 := hide hg6
        clear hm6 hg6 HS cD zD
        go_wp2_with fail
        go_roundw
        case rel =>
          refine ⟨i + 1, by go_num, by omega, by rw [HNX.out, nxt_live ho]; exact HM6.out, ?_, grown_trans HG'.out HG6.out⟩
          rw [HDX.out]
          refine ((HG6.out.block _ (by simpa using hDlq) (by simp; omega)).trans HBS.out).trans ?_
          rw [bools_set]
        case measure => simp [intOf]; omega
      · have HOv : Hid (i < f → Calls Tryz.prog 20 #[.pointer (some ⟨B, 0, none⟩)] wr fun e w' => e = .returned (.bool true) ∧ w' = wr) := fun hlt => by
          have ho : I.1.ov = true := by
            cases h : I.1.ov
            · exact absurd ⟨hlt, h⟩ hrun
            · rfl
          have := over_any HMn.out
          rw [ho] at this
          exact this
        have HSE : Hid (∀ ms, Im.end_ (Im.mixs xs ms (Im.dons xs f i)) f = EE) := fun ms => by
          rw [← HEE.out]
          refine spare_end HP.out ?_
          by_cases hlt : i < f
          · refine .inr ⟨hif, ?_⟩
            rw [HI.out]
            cases h : I.1.ov
            · exact absurd ⟨hlt, h⟩ hrun
            · rfl
          · exact .inl (by omega)
        have HFB : Hid (Below w.heap.size w wr) := HB3.out.trans ⟨HGn.out.os, HGn.out.tape, HGn.out.output, HGn.out.size, fun k hk => HGn.out.block k (by have := HB3.out.size; omega) (by simp; omega)⟩
        have HOW := hide ((HGn.out.block _ hO3l (by simp; omega)).trans HOB.out)
        have HPB := hide ((HGn.out.block _ (lt_of_block HP3.out) (by simp; omega)).trans HP3.out)
        clear HNX HDX
        by_cases hlt : i < f
        · have hif2 : (i : Int) < (f : Int) := by omega
          go_wp2_with fail
          refine (HOv.out hlt).mono ?_
          rintro e wx ⟨rfl, hwx⟩
          rw [hwx]
          clear hwx wx HOv
          go_wp2_with fail
          rename World => WA
          obtain ⟨DD, hDD⟩ : ∃ DD, Im.dons xs f i = DD := ⟨_, rfl⟩
          rw [hDD] at HDn HSE hdl
          have HDE := hide hDD
          clear hDD
          go_loopw [12] (fun t wr => ∃ (k : Nat) (qv : Value), t = .int .i64 (k : Int) ∧ k ≤ xs.length ∧ Hid (wr.heap[WA.heap.size]? = some (.cells #[.int .i64 (f : Int), qv] 24 (0, 0))) ∧ Hid (wr.ownsRow (WA.heap.size + 1) 66 6 qv k (flatI ((Im.mixs xs ms DD).take k))) ∧ Hid (WA.grownBy wr none)) (fun t _ => xs.length - (intOf t).toNat)
          case atStart => exact ⟨0, .slice none 0 0, rfl, Nat.zero_le _, heap_alloc_new WA _, World.ownsRow_nil _ _ _ _, grown_one WA _ none⟩
          case round =>
            obtain ⟨k, qv, rfl, hkl, HQk, HOk, HGk⟩ := hrel
            have hszk := HGk.out.size
            have hQl := lt_of_block HQk.out
            obtain ⟨adq, capq, rfl⟩ := rown_slice HOk.out
            have hps := (HGk.out.block _ (lt_of_block HPB.out) (by simp)).trans HPB.out
            have p1 : wr.cell? ⟨w.heap.size, 1, none⟩ = some (.slice p xs.length cap) := cell_of_block hps rfl
            have q0 : wr.cell? ⟨WA.heap.size, 0, none⟩ = some (.int .i64 (f : Int)) := cell_of_block HQk.out rfl
            have q1 : wr.cell? ⟨WA.heap.size, 1, none⟩ = some (.slice adq k capq) := cell_of_block HQk.out rfl
            have hplr : w.heap.size < wr.heap.size := by omega
            have hml := mixs_len xs ms DD
            by_cases hkx : k < xs.length
            · obtain ⟨cb, off, rfl, hcb, hcx⟩ := HCW.out (by omega)
              have hki : (k : Int) < (xs.length : Int) := by omega
              have hkn : ¬ xs.length ≤ k := by omega
              have hc : ∀ j u, (xs[k]!).cs[j]? = some u → wr.cell? ⟨cb, off + k * 6 + j, none⟩ = some u := fun j u hj => HGk.out.cell ((HFB.out.cell (p := ⟨cb, off + k * 6 + j, none⟩) hcb).trans (hcx k hkx j u hj)) (by simp)
              have c0 := hc 0 _ rfl
              have c1 := hc 1 _ rfl
              have c2 := hc 2 _ rfl
              have c3 := hc 3 _ rfl
              have c4 := hc 4 _ rfl
              have c5 := hc 5 _ rfl
              simp only [Nat.add_zero] at c0
              have hcbl : cb < wr.heap.size := by omega
              have cD : wr.cell? ⟨w3.heap.size, k, none⟩ = some (.bool DD[k]!) := by
                refine cell_of_block ((HGk.out.block _ (lt_of_block HDn.out) (by simp)).trans HDn.out) ?_
                simp only [List.getElem?_toArray, List.getElem?_map]
                rw [List.getElem?_eq_getElem (by omega), getElem!_pos _ _ (by omega)]
                rfl
              have hk64 : (k : Int) < 64 := by omega
              have hDwr : w3.heap.size < wr.heap.size := by omega
              have htk : flatI ((Im.mixs xs ms DD).take (k + 1)) = flatI ((Im.mixs xs ms DD).take k) ++ (Im.mixd xs ms DD k).cs := by
                rw [List.take_add_one, List.getElem?_eq_getElem (by omega), ← getElem!_pos (Im.mixs xs ms DD) k (by omega), mixs_get xs ms DD k hkx]
                unfold flatI
                rw [List.flatMap_append]
                simp
              have HTK := hide htk
              obtain ⟨i0, hi0, hz0, hz1, hz2⟩ := info_parts infoIns
              clear hc htk hps
              by_cases hd : DD[k]! = true
              · rw [hd] at cD
                have hx : Im.mixd xs ms DD k = xs[k]! := if_neg (fun e => by rw [hd] at e; cases e.1)
                rw [hx] at HTK
                clear hx hd
                generalize xs[k]! = x at *
                go_wp2_with (at_builtin; refine wpList_append_lies _ rfl (.tmp 101) (.tmp 103) 22 rfl (WA.heap.size + 1) 66 i0 (.agg #[.int .i64 0, .int .i64 0, .int .i64 0, .int .i64 0, .int .i64 0, .int .u64 0]) 6 48 Tryz.underlying22 hi0 hz0 hz1 hz2 rfl (by decide) (.slice adq k capq) k (flatI ((Im.mixs xs ms DD).take k)) rfl (rown_grown HOk.out (grown_trans (grown_one wr (.cells #[.int .i64 x.op, .int .i64 x.a, .int .i64 x.b, .int .i64 x.c, .int .i64 x.n, .int .u64 (x.k : Int)] 66) none) (grown_one _ (.cells #[.int .i64 x.op, .int .i64 x.a, .int .i64 x.b, .int .i64 x.c, .int .i64 x.n, .int .u64 (x.k : Int)] 66) none)) (fun _ _ => by simp)) ⟨wr.heap.size + 1, 0, none⟩ 1 1 x.cs rfl rfl (World.news_of_block (cs := #[.int .i64 x.op, .int .i64 x.a, .int .i64 x.b, .int .i64 x.c, .int .i64 x.n, .int .u64 (x.k : Int)]) (t := 66) (fr := (0, 0)) (by have h1 := heap_alloc_new (wr.alloc (.cells #[.int .i64 x.op, .int .i64 x.a, .int .i64 x.b, .int .i64 x.c, .int .i64 x.n, .int .u64 (x.k : Int)] 66)) (.cells #[.int .i64 x.op, .int .i64 x.a, .int .i64 x.b, .int .i64 x.c, .int .i64 x.n, .int .u64 (x.k : Int)] 66); rw [World.size_alloc] at h1; exact h1)) (by simp [Value.oneCell', In.cs]) (by decide) (by unfold maxLen; omega) (by omega) (by rw [World.size_alloc, World.size_alloc]; omega) (wr.heap.size + 2) (by rw [World.size_alloc, World.size_alloc]) ?_; intro g7 cap7 w7 hown hgrow hat hlt7; have HQ7 := hide (two_block hgrow (fun e => absurd (HOk.out.lt _ e).1 (Nat.not_succ_le_self _)) HQk.out); have q1 := (two_of HQ7.out).1; have qz := (two_of HQ7.out).2.1; have hlQ := (two_of HQ7.out).2.2; have HOW7 := hide hown; have HGR7 := hide hgrow; have HAT7 := hide hat; clear hown hgrow hat)
                have HO8 := hide (rown_grown HOW7.out (grown_set w7 WA.heap.size 1 (.slice (some ⟨g7, 0, none⟩) (k + 1) cap7)) (fun kk e e2 => by have := (HOW7.out.lt kk e).1; injection e2 with e2; omega))
                have HQ8 := hide (block_set HQ7.out 1 (.slice (some ⟨g7, 0, none⟩) (k + 1) cap7))
                have HG8 := hide (grown_high (grown_high (grown_trans HGk.out (grown_trans (grown_one wr (.cells #[.int .i64 x.op, .int .i64 x.a, .int .i64 x.b, .int .i64 x.c, .int .i64 x.n, .int .u64 (x.k : Int)] 66) none) (grown_one _ (.cells #[.int .i64 x.op, .int .i64 x.a, .int .i64 x.b, .int .i64 x.c, .int .i64 x.n, .int .u64 (x.k : Int)] 66) none))) HGR7.out (fun g e => by have := (HOk.out.lt g e).1; omega)) (grown_set w7 WA.heap.size 1 (.slice (some ⟨g7, 0, none⟩) (k + 1) cap7)) (fun g e => by injection e with e; omega))
                go_roundw
                case rel => exact ⟨k + 1, _, by go_num, by omega, HQ8.out, by rw [HTK.out]; exact HO8.out, HG8.out⟩
                case measure => simp [intOf]; omega
              · have hd2 : DD[k]! = false := by simpa using hd
                rw [hd2] at cD
                by_cases hkm : k < ms.length
                · obtain ⟨mb, moff, rfl, hmb, hmx⟩ := HMW.out (by omega)
                  have hkmi : (k : Int) < (ms.length : Int) := by omega
                  have hkmn : ¬ ms.length ≤ k := by omega
                  have hm : ∀ j u, (ms[k]!).cs[j]? = some u → wr.cell? ⟨mb, moff + k * 6 + j, none⟩ = some u := fun j u hj => HGk.out.cell ((HFB.out.cell (p := ⟨mb, moff + k * 6 + j, none⟩) hmb).trans (hmx k hkm j u hj)) (by simp)
                  have m0 := hm 0 _ rfl
                  have m1 := hm 1 _ rfl
                  have m2 := hm 2 _ rfl
                  have m3 := hm 3 _ rfl
                  have m4 := hm 4 _ rfl
                  have m5 := hm 5 _ rfl
                  simp only [Nat.add_zero] at m0
                  have hmbl : mb < wr.heap.size := by omega
                  have hx : Im.mixd xs ms DD k = ms[k]! := if_pos ⟨hd2, hkm⟩
                  rw [hx] at HTK
                  clear hx hd hd2 hm
                  generalize xs[k]! = y at *
                  generalize ms[k]! = x at *
                  go_wp2_with (at_builtin; refine wpList_append_lies _ rfl (.tmp 101) (.tmp 103) 22 rfl (WA.heap.size + 1) 66 i0 (.agg #[.int .i64 0, .int .i64 0, .int .i64 0, .int .i64 0, .int .i64 0, .int .u64 0]) 6 48 Tryz.underlying22 hi0 hz0 hz1 hz2 rfl (by decide) (.slice adq k capq) k (flatI ((Im.mixs xs ms DD).take k)) rfl (rown_grown HOk.out (grown_trans (grown_one wr (.cells #[.int .i64 x.op, .int .i64 x.a, .int .i64 x.b, .int .i64 x.c, .int .i64 x.n, .int .u64 (x.k : Int)] 66) none) (grown_one _ (.cells #[.int .i64 x.op, .int .i64 x.a, .int .i64 x.b, .int .i64 x.c, .int .i64 x.n, .int .u64 (x.k : Int)] 66) none)) (fun _ _ => by simp)) ⟨wr.heap.size + 1, 0, none⟩ 1 1 x.cs rfl rfl (World.news_of_block (cs := #[.int .i64 x.op, .int .i64 x.a, .int .i64 x.b, .int .i64 x.c, .int .i64 x.n, .int .u64 (x.k : Int)]) (t := 66) (fr := (0, 0)) (by have h1 := heap_alloc_new (wr.alloc (.cells #[.int .i64 x.op, .int .i64 x.a, .int .i64 x.b, .int .i64 x.c, .int .i64 x.n, .int .u64 (x.k : Int)] 66)) (.cells #[.int .i64 x.op, .int .i64 x.a, .int .i64 x.b, .int .i64 x.c, .int .i64 x.n, .int .u64 (x.k : Int)] 66); rw [World.size_alloc] at h1; exact h1)) (by simp [Value.oneCell', In.cs]) (by decide) (by unfold maxLen; omega) (by omega) (by rw [World.size_alloc, World.size_alloc]; omega) (wr.heap.size + 2) (by rw [World.size_alloc, World.size_alloc]) ?_; intro g7 cap7 w7 hown hgrow hat hlt7; have HQ7 := hide (two_block hgrow (fun e => absurd (HOk.out.lt _ e).1 (Nat.not_succ_le_self _)) HQk.out); have q1 := (two_of HQ7.out).1; have qz := (two_of HQ7.out).2.1; have hlQ := (two_of HQ7.out).2.2; have HOW7 := hide hown; have HGR7 := hide hgrow; have HAT7 := hide hat; clear hown hgrow hat)
                  have HO8 := hide (rown_grown HOW7.out (grown_set w7 WA.heap.size 1 (.slice (some ⟨g7, 0, none⟩) (k + 1) cap7)) (fun kk e e2 => by have := (HOW7.out.lt kk e).1; injection e2 with e2; omega))
                  have HQ8 := hide (block_set HQ7.out 1 (.slice (some ⟨g7, 0, none⟩) (k + 1) cap7))
                  have HG8 := hide (grown_high (grown_high (grown_trans HGk.out (grown_trans (grown_one wr (.cells #[.int .i64 x.op, .int .i64 x.a, .int .i64 x.b, .int .i64 x.c, .int .i64 x.n, .int .u64 (x.k : Int)] 66) none) (grown_one _ (.cells #[.int .i64 x.op, .int .i64 x.a, .int .i64 x.b, .int .i64 x.c, .int .i64 x.n, .int .u64 (x.k : Int)] 66) none))) HGR7.out (fun g e => by have := (HOk.out.lt g e).1; omega)) (grown_set w7 WA.heap.size 1 (.slice (some ⟨g7, 0, none⟩) (k + 1) cap7)) (fun g e => by injection e with e; omega))
                  go_roundw
                  case rel => exact ⟨k + 1, _, by go_num, by omega, HQ8.out, by rw [HTK.out]; exact HO8.out, HG8.out⟩
                  case measure => simp [intOf]; omega
                · have hkmi : ¬ (k : Int) < (ms.length : Int) := by omega
                  have hx : Im.mixd xs ms DD k = xs[k]! := if_neg (fun e => hkm e.2)
                  rw [hx] at HTK
                  clear hx hd hd2 hkm
                  generalize xs[k]! = x at *
                  go_wp2_with (at_builtin; refine wpList_append_lies _ rfl (.tmp 101) (.tmp 103) 22 rfl (WA.heap.size + 1) 66 i0 (.agg #[.int .i64 0, .int .i64 0, .int .i64 0, .int .i64 0, .int .i64 0, .int .u64 0]) 6 48 Tryz.underlying22 hi0 hz0 hz1 hz2 rfl (by decide) (.slice adq k capq) k (flatI ((Im.mixs xs ms DD).take k)) rfl (rown_grown HOk.out (grown_trans (grown_one wr (.cells #[.int .i64 x.op, .int .i64 x.a, .int .i64 x.b, .int .i64 x.c, .int .i64 x.n, .int .u64 (x.k : Int)] 66) none) (grown_one _ (.cells #[.int .i64 x.op, .int .i64 x.a, .int .i64 x.b, .int .i64 x.c, .int .i64 x.n, .int .u64 (x.k : Int)] 66) none)) (fun _ _ => by simp)) ⟨wr.heap.size + 1, 0, none⟩ 1 1 x.cs rfl rfl (World.news_of_block (cs := #[.int .i64 x.op, .int .i64 x.a, .int .i64 x.b, .int .i64 x.c, .int .i64 x.n, .int .u64 (x.k : Int)]) (t := 66) (fr := (0, 0)) (by have h1 := heap_alloc_new (wr.alloc (.cells #[.int .i64 x.op, .int .i64 x.a, .int .i64 x.b, .int .i64 x.c, .int .i64 x.n, .int .u64 (x.k : Int)] 66)) (.cells #[.int .i64 x.op, .int .i64 x.a, .int .i64 x.b, .int .i64 x.c, .int .i64 x.n, .int .u64 (x.k : Int)] 66); rw [World.size_alloc] at h1; exact h1)) (by simp [Value.oneCell', In.cs]) (by decide) (by unfold maxLen; omega) (by omega) (by rw [World.size_alloc, World.size_alloc]; omega) (wr.heap.size + 2) (by rw [World.size_alloc, World.size_alloc]) ?_; intro g7 cap7 w7 hown hgrow hat hlt7; have HQ7 := hide (two_block hgrow (fun e => absurd (HOk.out.lt _ e).1 (Nat.not_succ_le_self _)) HQk.out); have q1 := (two_of HQ7.out).1; have qz := (two_of HQ7.out).2.1; have hlQ := (two_of HQ7.out).2.2; have HOW7 := hide hown; have HGR7 := hide hgrow; have HAT7 := hide hat; clear hown hgrow hat)
                  have HO8 := hide (rown_grown HOW7.out (grown_set w7 WA.heap.size 1 (.slice (some ⟨g7, 0, none⟩) (k + 1) cap7)) (fun kk e e2 => by have := (HOW7.out.lt kk e).1; injection e2 with e2; omega))
                  have HQ8 := hide (block_set HQ7.out 1 (.slice (some ⟨g7, 0, none⟩) (k + 1) cap7))
                  have HG8 := hide (grown_high (grown_high (grown_trans HGk.out (grown_trans (grown_one wr (.cells #[.int .i64 x.op, .int .i64 x.a, .int .i64 x.b, .int .i64 x.c, .int .i64 x.n, .int .u64 (x.k : Int)] 66) none) (grown_one _ (.cells #[.int .i64 x.op, .int .i64 x.a, .int .i64 x.b, .int .i64 x.c, .int .i64 x.n, .int .u64 (x.k : Int)] 66) none))) HGR7.out (fun g e => by have := (HOk.out.lt g e).1; omega)) (grown_set w7 WA.heap.size 1 (.slice (some ⟨g7, 0, none⟩) (k + 1) cap7)) (fun g e => by injection e with e; omega))
                  go_roundw
                  case rel => exact ⟨k + 1, _, by go_num, by omega, HQ8.out, by rw [HTK.out]; exact HO8.out, HG8.out⟩
                  case measure => simp [intOf]; omega
            · obtain rfl : k = xs.length := by omega
              have hki : ¬ (xs.length : Int) < (xs.length : Int) := by omega
              have hown : wr.ownsRow (WA.heap.size + 1) 66 6 (.slice adq xs.length capq) (Im.mixs xs ms DD).length (flatI (Im.mixs xs ms DD)) := by
                have := HOk.out
                rw [List.take_of_length_le (by omega)] at this
                rw [hml]
                exact this
              have hcdn := own_cdn (B := w.heap.size) hown (by omega) (fun e => by have := (hown.lt _ e).1; omega)
              have HCQ : Hid (Cd wr (.slice adq xs.length capq) (Im.mixs xs ms DD)) := by
                obtain ⟨b, off, cp, hv, hb, _, hc⟩ := hcdn
                exact ⟨some ⟨b, off, none⟩, cp, hv, fun _ => ⟨b, off, rfl, hb, hc⟩⟩
              have hfit := mixs_fits (D := DD) HX.out HMS.out
              have HBw : Hid (Below w.heap.size w wr) := HFB.out.trans ⟨HGk.out.os, HGk.out.tape, HGk.out.output, HGk.out.size, fun kk hk => HGk.out.block kk (by omega) (by simp)⟩
              have HTw := hide (HT.out.below HBw.out)
              have HOo := hide ((HGk.out.block _ (lt_of_block HOW.out) (by simp)).trans HOW.out)
              have hOl := lt_of_block HOo.out
              clear hown hcdn hps
              by_cases hE2 : (Pg.checkE (f : Int) (Im.mixs xs ms DD)).1 = 0
              · obtain ⟨f', hf', hp'⟩ := pok_of hfit hE2
                obtain rfl : f = f' := by omega
                have HW8 := hide (whole_s hfit HCQ.out (check_zz hp' hE2) hp' HTw.out)
                rw [HSE.out ms] at HW8
                clear hfit hE2 hp' hf'
                go_wp2_with fail
                refine HW8.out.mono ?_
                rintro e w8 ⟨o8, rfl, ho8, hb8⟩
                obtain ⟨cv8, pv8, rfl, s81, s82⟩ := ho8
                obtain ⟨pc8, cc8, rfl, -, -⟩ := s81
                obtain ⟨pp8, cp8, rfl, -, -⟩ := s82
                have hO8 := (hb8.block _ hOl).trans HOo.out
                obtain ⟨o0, o1, o2, o3, o4, -⟩ := five_of hO8
                have hOl8 := lt_of_block hO8
                have HB8 := hide hb8
                have hneO : ¬ w2.heap.size = w8.heap.size := by omega
                clear hb8 hO8 p1 q0 q1
                go_wp2_with fail
                go_ret
                exact ⟨rfl, HBw.out.trans (((HB8.out.trans ((below_one w8 _).mono HB8.out.size))).mono HBw.out.size)⟩
              · have HW8 := hide (whole_no hfit HCQ.out hE2)
                generalize Pg.checkE (f : Int) (Im.mixs xs ms DD) = E2 at *
                have hbE : (E2.1 != 0) = true := by rw [bne_iff_ne]; exact hE2
                clear hfit hE2
                go_wp2_with fail
                refine HW8.out.mono ?_
                rintro e w8 ⟨rfl, hb8⟩
                have HB8 := hide hb8
                clear hb8 p1 q0 q1
                go_wp2_with fail
                go_ret
                exact ⟨rfl, HBw.out.trans (((HB8.out.trans ((below_one w8 _).mono HB8.out.size))).mono HBw.out.size)⟩
        · have hif2 : ¬ (i : Int) < (f : Int) := by omega
          clear HOv
          go_wp2_with fail
          rename World => WA
          obtain ⟨DD, hDD⟩ : ∃ DD, Im.dons xs f i = DD := ⟨_, rfl⟩
          rw [hDD] at HDn HSE hdl
          have HDE := hide hDD
          clear hDD
          go_loopw [12] (fun t wr => ∃ (k : Nat) (qv : Value), t = .int .i64 (k : Int) ∧ k ≤ xs.length ∧ Hid (wr.heap[WA.heap.size]? = some (.cells #[.int .i64 (f : Int), qv] 24 (0, 0))) ∧ Hid (wr.ownsRow (WA.heap.size + 1) 66 6 qv k (flatI ((Im.mixs xs ms DD).take k))) ∧ Hid (WA.grownBy wr none)) (fun t _ => xs.length - (intOf t).toNat)
          case atStart => exact ⟨0, .slice none 0 0, rfl, Nat.zero_le _, heap_alloc_new WA _, World.ownsRow_nil _ _ _ _, grown_one WA _ none⟩
          case round =>
            obtain ⟨k, qv, rfl, hkl, HQk, HOk, HGk⟩ := hrel
            have hszk := HGk.out.size
            have hQl := lt_of_block HQk.out
            obtain ⟨adq, capq, rfl⟩ := rown_slice HOk.out
            have hps := (HGk.out.block _ (lt_of_block HPB.out) (by simp)).trans HPB.out
            have p1 : wr.cell? ⟨w.heap.size, 1, none⟩ = some (.slice p xs.length cap) := cell_of_block hps rfl
            have q0 : wr.cell? ⟨WA.heap.size, 0, none⟩ = some (.int .i64 (f : Int)) := cell_of_block HQk.out rfl
            have q1 : wr.cell? ⟨WA.heap.size, 1, none⟩ = some (.slice adq k capq) := cell_of_block HQk.out rfl
            have hplr : w.heap.size < wr.heap.size := by omega
            have hml := mixs_len xs ms DD
            by_cases hkx : k < xs.length
            · obtain ⟨cb, off, rfl, hcb, hcx⟩ := HCW.out (by omega)
              have hki : (k : Int) < (xs.length : Int) := by omega
              have hkn : ¬ xs.length ≤ k := by omega
              have hc : ∀ j u, (xs[k]!).cs[j]? = some u → wr.cell? ⟨cb, off + k * 6 + j, none⟩ = some u := fun j u hj => HGk.out.cell ((HFB.out.cell (p := ⟨cb, off + k * 6 + j, none⟩) hcb).trans (hcx k hkx j u hj)) (by simp)
              have c0 := hc 0 _ rfl
              have c1 := hc 1 _ rfl
              have c2 := hc 2 _ rfl
              have c3 := hc 3 _ rfl
              have c4 := hc 4 _ rfl
              have c5 := hc 5 _ rfl
              simp only [Nat.add_zero] at c0
              have hcbl : cb < wr.heap.size := by omega
              have cD : wr.cell? ⟨w3.heap.size, k, none⟩ = some (.bool DD[k]!) := by
                refine cell_of_block ((HGk.out.block _ (lt_of_block HDn.out) (by simp)).trans HDn.out) ?_
                simp only [List.getElem?_toArray, List.getElem?_map]
                rw [List.getElem?_eq_getElem (by omega), getElem!_pos _ _ (by omega)]
                rfl
              have hk64 : (k : Int) < 64 := by omega
              have hDwr : w3.heap.size < wr.heap.size := by omega
              have htk : flatI ((Im.mixs xs ms DD).take (k + 1)) = flatI ((Im.mixs xs ms DD).take k) ++ (Im.mixd xs ms DD k).cs := by
                rw [List.take_add_one, List.getElem?_eq_getElem (by omega), ← getElem!_pos (Im.mixs xs ms DD) k (by omega), mixs_get xs ms DD k hkx]
                unfold flatI
                rw [List.flatMap_append]
                simp
              have HTK := hide htk
              obtain ⟨i0, hi0, hz0, hz1, hz2⟩ := info_parts infoIns
              clear hc htk hps
              by_cases hd : DD[k]! = true
              · rw [hd] at cD
                have hx : Im.mixd xs ms DD k = xs[k]! := if_neg (fun e => by rw [hd] at e; cases e.1)
                rw [hx] at HTK
                clear hx hd
                generalize xs[k]! = x at *
                go_wp2_with (at_builtin; refine wpList_append_lies _ rfl (.tmp 101) (.tmp 103) 22 rfl (WA.heap.size + 1) 66 i0 (.agg #[.int .i64 0, .int .i64 0, .int .i64 0, .int .i64 0, .int .i64 0, .int .u64 0]) 6 48 Tryz.underlying22 hi0 hz0 hz1 hz2 rfl (by decide) (.slice adq k capq) k (flatI ((Im.mixs xs ms DD).take k)) rfl (rown_grown HOk.out (grown_trans (grown_one wr (.cells #[.int .i64 x.op, .int .i64 x.a, .int .i64 x.b, .int .i64 x.c, .int .i64 x.n, .int .u64 (x.k : Int)] 66) none) (grown_one _ (.cells #[.int .i64 x.op, .int .i64 x.a, .int .i64 x.b, .int .i64 x.c, .int .i64 x.n, .int .u64 (x.k : Int)] 66) none)) (fun _ _ => by simp)) ⟨wr.heap.size + 1, 0, none⟩ 1 1 x.cs rfl rfl (World.news_of_block (cs := #[.int .i64 x.op, .int .i64 x.a, .int .i64 x.b, .int .i64 x.c, .int .i64 x.n, .int .u64 (x.k : Int)]) (t := 66) (fr := (0, 0)) (by have h1 := heap_alloc_new (wr.alloc (.cells #[.int .i64 x.op, .int .i64 x.a, .int .i64 x.b, .int .i64 x.c, .int .i64 x.n, .int .u64 (x.k : Int)] 66)) (.cells #[.int .i64 x.op, .int .i64 x.a, .int .i64 x.b, .int .i64 x.c, .int .i64 x.n, .int .u64 (x.k : Int)] 66); rw [World.size_alloc] at h1; exact h1)) (by simp [Value.oneCell', In.cs]) (by decide) (by unfold maxLen; omega) (by omega) (by rw [World.size_alloc, World.size_alloc]; omega) (wr.heap.size + 2) (by rw [World.size_alloc, World.size_alloc]) ?_; intro g7 cap7 w7 hown hgrow hat hlt7; have HQ7 := hide (two_block hgrow (fun e => absurd (HOk.out.lt _ e).1 (Nat.not_succ_le_self _)) HQk.out); have q1 := (two_of HQ7.out).1; have qz := (two_of HQ7.out).2.1; have hlQ := (two_of HQ7.out).2.2; have HOW7 := hide hown; have HGR7 := hide hgrow; have HAT7 := hide hat; clear hown hgrow hat)
                have HO8 := hide (rown_grown HOW7.out (grown_set w7 WA.heap.size 1 (.slice (some ⟨g7, 0, none⟩) (k + 1) cap7)) (fun kk e e2 => by have := (HOW7.out.lt kk e).1; injection e2 with e2; omega))
                have HQ8 := hide (block_set HQ7.out 1 (.slice (some ⟨g7, 0, none⟩) (k + 1) cap7))
                have HG8 := hide (grown_high (grown_high (grown_trans HGk.out (grown_trans (grown_one wr (.cells #[.int .i64 x.op, .int .i64 x.a, .int .i64 x.b, .int .i64 x.c, .int .i64 x.n, .int .u64 (x.k : Int)] 66) none) (grown_one _ (.cells #[.int .i64 x.op, .int .i64 x.a, .int .i64 x.b, .int .i64 x.c, .int .i64 x.n, .int .u64 (x.k : Int)] 66) none))) HGR7.out (fun g e => by have := (HOk.out.lt g e).1; omega)) (grown_set w7 WA.heap.size 1 (.slice (some ⟨g7, 0, none⟩) (k + 1) cap7)) (fun g e => by injection e with e; omega))
                go_roundw
                case rel => exact ⟨k + 1, _, by go_num, by omega, HQ8.out, by rw [HTK.out]; exact HO8.out, HG8.out⟩
                case measure => simp [intOf]; omega
              · have hd2 : DD[k]! = false := by simpa using hd
                rw [hd2] at cD
                by_cases hkm : k < ms.length
                · obtain ⟨mb, moff, rfl, hmb, hmx⟩ := HMW.out (by omega)
                  have hkmi : (k : Int) < (ms.length : Int) := by omega
                  have hkmn : ¬ ms.length ≤ k := by omega
                  have hm : ∀ j u, (ms[k]!).cs[j]? = some u → wr.cell? ⟨mb, moff + k * 6 + j, none⟩ = some u := fun j u hj => HGk.out.cell ((HFB.out.cell (p := ⟨mb, moff + k * 6 + j, none⟩) hmb).trans (hmx k hkm j u hj)) (by simp)
                  have m0 := hm 0 _ rfl
                  have m1 := hm 1 _ rfl
                  have m2 := hm 2 _ rfl
                  have m3 := hm 3 _ rfl
                  have m4 := hm 4 _ rfl
                  have m5 := hm 5 _ rfl
                  simp only [Nat.add_zero] at m0
                  have hmbl : mb < wr.heap.size := by omega
                  have hx : Im.mixd xs ms DD k = ms[k]! := if_pos ⟨hd2, hkm⟩
                  rw [hx] at HTK
                  clear hx hd hd2 hm
                  generalize xs[k]! = y at *
                  generalize ms[k]! = x at *
                  go_wp2_with (at_builtin; refine wpList_append_lies _ rfl (.tmp 101) (.tmp 103) 22 rfl (WA.heap.size + 1) 66 i0 (.agg #[.int .i64 0, .int .i64 0, .int .i64 0, .int .i64 0, .int .i64 0, .int .u64 0]) 6 48 Tryz.underlying22 hi0 hz0 hz1 hz2 rfl (by decide) (.slice adq k capq) k (flatI ((Im.mixs xs ms DD).take k)) rfl (rown_grown HOk.out (grown_trans (grown_one wr (.cells #[.int .i64 x.op, .int .i64 x.a, .int .i64 x.b, .int .i64 x.c, .int .i64 x.n, .int .u64 (x.k : Int)] 66) none) (grown_one _ (.cells #[.int .i64 x.op, .int .i64 x.a, .int .i64 x.b, .int .i64 x.c, .int .i64 x.n, .int .u64 (x.k : Int)] 66) none)) (fun _ _ => by simp)) ⟨wr.heap.size + 1, 0, none⟩ 1 1 x.cs rfl rfl (World.news_of_block (cs := #[.int .i64 x.op, .int .i64 x.a, .int .i64 x.b, .int .i64 x.c, .int .i64 x.n, .int .u64 (x.k : Int)]) (t := 66) (fr := (0, 0)) (by have h1 := heap_alloc_new (wr.alloc (.cells #[.int .i64 x.op, .int .i64 x.a, .int .i64 x.b, .int .i64 x.c, .int .i64 x.n, .int .u64 (x.k : Int)] 66)) (.cells #[.int .i64 x.op, .int .i64 x.a, .int .i64 x.b, .int .i64 x.c, .int .i64 x.n, .int .u64 (x.k : Int)] 66); rw [World.size_alloc] at h1; exact h1)) (by simp [Value.oneCell', In.cs]) (by decide) (by unfold maxLen; omega) (by omega) (by rw [World.size_alloc, World.size_alloc]; omega) (wr.heap.size + 2) (by rw [World.size_alloc, World.size_alloc]) ?_; intro g7 cap7 w7 hown hgrow hat hlt7; have HQ7 := hide (two_block hgrow (fun e => absurd (HOk.out.lt _ e).1 (Nat.not_succ_le_self _)) HQk.out); have q1 := (two_of HQ7.out).1; have qz := (two_of HQ7.out).2.1; have hlQ := (two_of HQ7.out).2.2; have HOW7 := hide hown; have HGR7 := hide hgrow; have HAT7 := hide hat; clear hown hgrow hat)
                  have HO8 := hide (rown_grown HOW7.out (grown_set w7 WA.heap.size 1 (.slice (some ⟨g7, 0, none⟩) (k + 1) cap7)) (fun kk e e2 => by have := (HOW7.out.lt kk e).1; injection e2 with e2; omega))
                  have HQ8 := hide (block_set HQ7.out 1 (.slice (some ⟨g7, 0, none⟩) (k + 1) cap7))
                  have HG8 := hide (grown_high (grown_high (grown_trans HGk.out (grown_trans (grown_one wr (.cells #[.int .i64 x.op, .int .i64 x.a, .int .i64 x.b, .int .i64 x.c, .int .i64 x.n, .int .u64 (x.k : Int)] 66) none) (grown_one _ (.cells #[.int .i64 x.op, .int .i64 x.a, .int .i64 x.b, .int .i64 x.c, .int .i64 x.n, .int .u64 (x.k : Int)] 66) none))) HGR7.out (fun g e => by have := (HOk.out.lt g e).1; omega)) (grown_set w7 WA.heap.size 1 (.slice (some ⟨g7, 0, none⟩) (k + 1) cap7)) (fun g e => by injection e with e; omega))
                  go_roundw
                  case rel => exact ⟨k + 1, _, by go_num, by omega, HQ8.out, by rw [HTK.out]; exact HO8.out, HG8.out⟩
                  case measure => simp [intOf]; omega
                · have hkmi : ¬ (k : Int) < (ms.length : Int) := by omega
                  have hx : Im.mixd xs ms DD k = xs[k]! := if_neg (fun e => hkm e.2)
                  rw [hx] at HTK
                  clear hx hd hd2 hkm
                  generalize xs[k]! = x at *
                  go_wp2_with (at_builtin; refine wpList_append_lies _ rfl (.tmp 101) (.tmp 103) 22 rfl (WA.heap.size + 1) 66 i0 (.agg #[.int .i64 0, .int .i64 0, .int .i64 0, .int .i64 0, .int .i64 0, .int .u64 0]) 6 48 Tryz.underlying22 hi0 hz0 hz1 hz2 rfl (by decide) (.slice adq k capq) k (flatI ((Im.mixs xs ms DD).take k)) rfl (rown_grown HOk.out (grown_trans (grown_one wr (.cells #[.int .i64 x.op, .int .i64 x.a, .int .i64 x.b, .int .i64 x.c, .int .i64 x.n, .int .u64 (x.k : Int)] 66) none) (grown_one _ (.cells #[.int .i64 x.op, .int .i64 x.a, .int .i64 x.b, .int .i64 x.c, .int .i64 x.n, .int .u64 (x.k : Int)] 66) none)) (fun _ _ => by simp)) ⟨wr.heap.size + 1, 0, none⟩ 1 1 x.cs rfl rfl (World.news_of_block (cs := #[.int .i64 x.op, .int .i64 x.a, .int .i64 x.b, .int .i64 x.c, .int .i64 x.n, .int .u64 (x.k : Int)]) (t := 66) (fr := (0, 0)) (by have h1 := heap_alloc_new (wr.alloc (.cells #[.int .i64 x.op, .int .i64 x.a, .int .i64 x.b, .int .i64 x.c, .int .i64 x.n, .int .u64 (x.k : Int)] 66)) (.cells #[.int .i64 x.op, .int .i64 x.a, .int .i64 x.b, .int .i64 x.c, .int .i64 x.n, .int .u64 (x.k : Int)] 66); rw [World.size_alloc] at h1; exact h1)) (by simp [Value.oneCell', In.cs]) (by decide) (by unfold maxLen; omega) (by omega) (by rw [World.size_alloc, World.size_alloc]; omega) (wr.heap.size + 2) (by rw [World.size_alloc, World.size_alloc]) ?_; intro g7 cap7 w7 hown hgrow hat hlt7; have HQ7 := hide (two_block hgrow (fun e => absurd (HOk.out.lt _ e).1 (Nat.not_succ_le_self _)) HQk.out); have q1 := (two_of HQ7.out).1; have qz := (two_of HQ7.out).2.1; have hlQ := (two_of HQ7.out).2.2; have HOW7 := hide hown; have HGR7 := hide hgrow; have HAT7 := hide hat; clear hown hgrow hat)
                  have HO8 := hide (rown_grown HOW7.out (grown_set w7 WA.heap.size 1 (.slice (some ⟨g7, 0, none⟩) (k + 1) cap7)) (fun kk e e2 => by have := (HOW7.out.lt kk e).1; injection e2 with e2; omega))
                  have HQ8 := hide (block_set HQ7.out 1 (.slice (some ⟨g7, 0, none⟩) (k + 1) cap7))
                  have HG8 := hide (grown_high (grown_high (grown_trans HGk.out (grown_trans (grown_one wr (.cells #[.int .i64 x.op, .int .i64 x.a, .int .i64 x.b, .int .i64 x.c, .int .i64 x.n, .int .u64 (x.k : Int)] 66) none) (grown_one _ (.cells #[.int .i64 x.op, .int .i64 x.a, .int .i64 x.b, .int .i64 x.c, .int .i64 x.n, .int .u64 (x.k : Int)] 66) none))) HGR7.out (fun g e => by have := (HOk.out.lt g e).1; omega)) (grown_set w7 WA.heap.size 1 (.slice (some ⟨g7, 0, none⟩) (k + 1) cap7)) (fun g e => by injection e with e; omega))
                  go_roundw
                  case rel => exact ⟨k + 1, _, by go_num, by omega, HQ8.out, by rw [HTK.out]; exact HO8.out, HG8.out⟩
                  case measure => simp [intOf]; omega
            · obtain rfl : k = xs.length := by omega
              have hki : ¬ (xs.length : Int) < (xs.length : Int) := by omega
              have hown : wr.ownsRow (WA.heap.size + 1) 66 6 (.slice adq xs.length capq) (Im.mixs xs ms DD).length (flatI (Im.mixs xs ms DD)) := by
                have := HOk.out
                rw [List.take_of_length_le (by omega)] at this
                rw [hml]
                exact this
              have hcdn := own_cdn (B := w.heap.size) hown (by omega) (fun e => by have := (hown.lt _ e).1; omega)
              have HCQ : Hid (Cd wr (.slice adq xs.length capq) (Im.mixs xs ms DD)) := by
                obtain ⟨b, off, cp, hv, hb, _, hc⟩ := hcdn
                exact ⟨some ⟨b, off, none⟩, cp, hv, fun _ => ⟨b, off, rfl, hb, hc⟩⟩
              have hfit := mixs_fits (D := DD) HX.out HMS.out
              have HBw : Hid (Below w.heap.size w wr) := HFB.out.trans ⟨HGk.out.os, HGk.out.tape, HGk.out.output, HGk.out.size, fun kk hk => HGk.out.block kk (by omega) (by simp)⟩
              have HTw := hide (HT.out.below HBw.out)
              have HOo := hide ((HGk.out.block _ (lt_of_block HOW.out) (by simp)).trans HOW.out)
              have hOl := lt_of_block HOo.out
              clear hown hcdn hps
              by_cases hE2 : (Pg.checkE (f : Int) (Im.mixs xs ms DD)).1 = 0
              · obtain ⟨f', hf', hp'⟩ := pok_of hfit hE2
                obtain rfl : f = f' := by omega
                have HW8 := hide (whole_s hfit HCQ.out (check_zz hp' hE2) hp' HTw.out)
                rw [HSE.out ms] at HW8
                clear hfit hE2 hp' hf'
                go_wp2_with fail
                refine HW8.out.mono ?_
                rintro e w8 ⟨o8, rfl, ho8, hb8⟩
                obtain ⟨cv8, pv8, rfl, s81, s82⟩ := ho8
                obtain ⟨pc8, cc8, rfl, -, -⟩ := s81
                obtain ⟨pp8, cp8, rfl, -, -⟩ := s82
                have hO8 := (hb8.block _ hOl).trans HOo.out
                obtain ⟨o0, o1, o2, o3, o4, -⟩ := five_of hO8
                have hOl8 := lt_of_block hO8
                have HB8 := hide hb8
                have hneO : ¬ w2.heap.size = w8.heap.size := by omega
                clear hb8 hO8 p1 q0 q1
                go_wp2_with fail
                go_ret
                exact ⟨rfl, HBw.out.trans (((HB8.out.trans ((below_one w8 _).mono HB8.out.size))).mono HBw.out.size)⟩
              · have HW8 := hide (whole_no hfit HCQ.out hE2)
                generalize Pg.checkE (f : Int) (Im.mixs xs ms DD) = E2 at *
                have hbE : (E2.1 != 0) = true := by rw [bne_iff_ne]; exact hE2
                clear hfit hE2
                go_wp2_with fail
                refine HW8.out.mono ?_
                rintro e w8 ⟨rfl, hb8⟩
                have HB8 := hide hb8
                clear hb8 p1 q0 q1
                go_wp2_with fail
                go_ret
                exact ⟨rfl, HBw.out.trans (((HB8.out.trans ((below_one w8 _).mono HB8.out.size))).mono HBw.out.size)⟩
  · have HNo := hide (fun w1 (h1 : Cd w1 v xs) => new_no hx h1 hE)
    have HW := hide (fun w1 (h1 : Cd w1 v xs) => whole_no hx h1 hE)
    obtain ⟨p, cap, rfl, -⟩ := h
    generalize Pg.checkE fuel xs = E at *
    have hb : (E.1 != 0) = true := by rw [bne_iff_ne]; exact hE
    clear hx hT hE
    go_enter Tryz.func8, Tryz.ntmps8
    go_wp2_with fail
    refine (HNo.out _ (HCd.out.below (below_one w _) (Nat.le_refl _))).mono ?_
    rintro e w1 ⟨rfl, hb1⟩
    have HB1 : Hid (Below w.heap.size w w1) := (below_one w _).trans (hb1.mono (by simp))
    have hpw : w1.heap[w.heap.size]? = some (.cells #[.int .i64 fuel, .slice p xs.length cap] 24 (0, 0)) := (hb1.block w.heap.size (by simp)).trans (heap_alloc_new w _)
    have p0 : w1.cell? ⟨w.heap.size, 0, none⟩ = some (.int .i64 fuel) := cell_of_block hpw rfl
    have p1 : w1.cell? ⟨w.heap.size, 1, none⟩ = some (.slice p xs.length cap) := cell_of_block hpw rfl
    clear hb1 hpw
    go_wp2_with fail
    refine (HW.out _ (HCd.out.below HB1.out (Nat.le_refl _))).mono ?_
    rintro e w2 ⟨rfl, hb2⟩
    have HB2 : Hid (Below w.heap.size w w2) := HB1.out.trans (hb2.mono HB1.out.size)
    clear hb2
    go_wp2_with fail
    refine (iawake_true _ ((HT.out.below HB2.out).below (below_one w2 _))).mono ?_
    rintro e w3 ⟨rfl, hb3⟩
    have HB3 : Hid (Below w.heap.size w w3) := HB2.out.trans (((below_one w2 _).trans (hb3.mono (by simp))).mono HB2.out.size)
    clear hb3
    go_wp2_with fail
    go_ret
    exact ⟨rfl, HB3.out⟩
end Go.Proofs.YthjngodkpldpfaaGreatDoor
end
