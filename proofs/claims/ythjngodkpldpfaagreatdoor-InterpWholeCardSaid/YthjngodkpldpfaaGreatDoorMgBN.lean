import Derived.Test.YthjngodkpldpfaaGreatDoorMgBM
import Derived.Test.YthjngodkpldpfaaGreatDoorMgBL

section
namespace Go.Proofs.YthjngodkpldpfaaGreatDoor
open Go.RowKit Go.Shelf

/-- a row of texts, whatever stands in it -/
def Wk (w : World) (base : Nat) (v : Value) (n : Nat) : Prop := ∃ xs, w.ownsRow base 9 1 v n xs
theorem Wk.below {w w' : World} {base n : Nat} {v : Value} (h : Wk w base v n) (k : Below w.heap.size w w') : Wk w' base v n := by
  obtain ⟨xs, h⟩ := h
  exact ⟨xs, rown_grown h (grown_below k none) (fun _ _ => by simp)⟩
/-- a store into a row leaves every row a row -/
theorem Wk.put {w : World} {base n : Nat} {v : Value} (h : Wk w base v n) (g j : Nat) (u : Value) : Wk (w.setCell ⟨g, j, none⟩ u) base v n := by
  obtain ⟨xs, h1, h2⟩ := h
  rcases h2 with h2 | ⟨g2, cap, cur, hv, hb, hh, a1, a2, a3, a4⟩
  · exact ⟨xs, h1, .inl h2⟩
  · by_cases e : g2 = g
    · subst e
      refine ⟨(cur.setIfInBounds j u).toList.take (n * 1), ?_, .inr ⟨g2, cap, cur.setIfInBounds j u, hv, hb, block_set hh j u, a1, a2, by rw [Array.size_setIfInBounds]; exact a3, rfl⟩⟩
      rw [List.length_take, Array.length_toList, Array.size_setIfInBounds, a3]
      omega
    · exact ⟨xs, h1, .inr ⟨g2, cap, cur, hv, hb, ((grown_set w g j u).block g2 (lt_of_block hh) (by simp; omega)).trans hh, a1, a2, a3, a4⟩⟩
theorem Wk.slice {w : World} {base n : Nat} {v : Value} (h : Wk w base v n) : ∃ ad cap, v = .slice ad n cap := by
  obtain ⟨xs, h⟩ := h
  exact rown_slice h
/-- the cell to be written -/
theorem Wk.at {w : World} {base n : Nat} {ad : Option Addr} {cap : Nat} (h : Wk w base (.slice ad n cap) n) (j : Nat) (hj : j < n) : ∃ g u, ad = some ⟨g, 0, none⟩ ∧ base ≤ g ∧ g < w.heap.size ∧ w.cell? ⟨g, j, none⟩ = some u ∧ w.frozen? ⟨g, j, none⟩ = false := by
  obtain ⟨xs, h1, h2⟩ := h
  rcases h2 with ⟨h2, h3⟩ | ⟨g, cap', cur, hv, hb, hh, a1, a2, a3, a4⟩
  · omega
  · injection hv with e1 e2 e3
    subst e1
    refine ⟨g, cur[j]'(by rw [a3]; omega), rfl, hb, lt_of_block hh, cell_of_block hh (Array.getElem?_eq_getElem (by rw [a3]; omega)), by simp [World.frozen?, hh]⟩
theorem below_put (w : World) (g j : Nat) (u : Value) {n : Nat} (h : n ≤ g) : Below n w (w.setCell ⟨g, j, none⟩ u) :=
  ⟨(grown_set w g j u).os, (grown_set w g j u).tape, (grown_set w g j u).output, (grown_set w g j u).size, fun k hk => by
    rcases Nat.lt_or_ge k w.heap.size with q | q
    · exact (grown_set w g j u).block k q (by simp; omega)
    · rw [Array.getElem?_eq_none (by simpa using q), Array.getElem?_eq_none q]⟩
theorem own_z {w : World} {base e n g cap : Nat} {xs : List Value} (h : w.ownsRow base e 1 (.slice (some ⟨g, 0, none⟩) n cap) n xs) : ∀ i, w.frozen? ⟨g, i, none⟩ = false := fun i => by
  rcases h.2 with ⟨h2, _⟩ | ⟨g', cap', cur, hv, hb, hh, _⟩
  · cases h2
  · injection hv with e1 e2 e3
    injection e1 with e1
    injection e1 with e1
    subst e1
    simp [World.frozen?, hh]
/-- what a Whole tells, with its rows -/
def WhP (W : World) (C Bt St : Nat) (E : Int) (ch pc : List ByteArray) (e : Ending) (w' : World) : Prop :=
  ∃ cv pv, e = .returned (.tuple #[.agg #[.int .i64 (C : Int), .int .u64 (Bt : Int), cv, pv, .int .i64 (St : Int)], .int .i64 E]) ∧ w'.ownsRow W.heap.size 9 1 cv ch.length (Im.strs ch) ∧ w'.ownsRow W.heap.size 9 1 pv pc.length (Im.strs pc) ∧ Below W.heap.size W w'
set_option maxRecDepth 20000 in
set_option maxHeartbeats 8000000 in
theorem interpWhole_core (fuel : Int) (v : Value) (n0 : Nat) (p : Option Addr) (cap : Nat) (hv : v = .slice p n0 cap) (C Bt St : Nat) (E : Int) (ch pc : List ByteArray) (hch : ch.length ≤ 2000) (hpc : pc.length ≤ 2000) (w : World) (hT : Tbs w)
    (HWp : ∀ W, Below w.heap.size w W → Calls Tryz.prog 17 #[.agg #[.int .i64 fuel, v]] W (WhP W C Bt St E ch pc))
    (HWr : ∀ W, Below w.heap.size w W → Calls Tryz.prog 18 #[.agg #[.int .i64 fuel, v]] W (WhP W C Bt St E ch pc)) :
    Calls Tryz.prog 4 #[.agg #[.int .i64 fuel, v]] w fun e w' => e = .returned (.bool true) ∧ Below w.heap.size w w' := by
  subst hv
  have HP := hide HWp
  have HD := hide HWr
  have HT := hide hT
  have hEE : (E != E) = false := by simp
  clear HWp HWr hT
  go_enter Tryz.func4, Tryz.ntmps4
  go_wp2_with fail
  go_loopw [3] (fun t wr => ∃ k : Nat, t = .int .i64 (k : Int) ∧ k ≤ 2 ∧ Hid (Below (w.heap.size + 1) (w.alloc (.cells #[.int .i64 fuel, .slice p n0 cap] 24)) wr)) (fun t _ => 2 - (intOf t).toNat)
  case atStart => exact ⟨0, rfl, by decide, Below.refl _ _⟩
  case round =>
    obtain ⟨k, rfl, hk, HB⟩ := hrel
    have hPw : wr.heap[w.heap.size]? = some (.cells #[.int .i64 fuel, .slice p n0 cap] 24 (0, 0)) := (HB.out.block w.heap.size (by omega)).trans (heap_alloc_new w _)
    have p0 : wr.cell? ⟨w.heap.size, 0, none⟩ = some (.int .i64 fuel) := cell_of_block hPw rfl
    have p1 : wr.cell? ⟨w.heap.size, 1, none⟩ = some (.slice p n0 cap) := cell_of_block hPw rfl
    have hpl := lt_of_block hPw
    have HPw := hide hPw
    have HBw : Hid (Below w.heap.size w wr) := (below_one w _).trans (HB.out.mono (by omega))
    clear hPw
    by_cases hk2 : k < 2
    · have hki : (k : Int) < 2 := by omega
      rename World => wt
      go_wp2_with fail
      refine (HP.out _ HBw.out).mono ?_
      rintro e w1 ⟨cv, pv, rfl, hc1, hp1, hb1⟩
      obtain ⟨adc, cpc, rfl⟩ := rown_slice hc1
      obtain ⟨adp, cpp, rfl⟩ := rown_slice hp1
      have HC1 := hide hc1
      have HP1 := hide hp1
      have HB1 := hide hb1
      have hPw1 := (hb1.block _ hpl).trans HPw.out
      have p01 : w1.cell? ⟨w.heap.size, 0, none⟩ = some (.int .i64 fuel) := cell_of_block hPw1 rfl
      have p11 : w1.cell? ⟨w.heap.size, 1, none⟩ = some (.slice p n0 cap) := cell_of_block hPw1 rfl
      have hpl1 := lt_of_block hPw1
      have hne1 : ¬ w.heap.size = w1.heap.size := by omega
      clear hc1 hp1 hb1 hPw1 p0 p1
      go_wp2_with fail
      have hbA : Below wt.heap.size wt (w1.alloc (.cells #[.int .i64 (C : Int), .int .u64 (Bt : Int), .slice adc ch.length cpc, .slice adp pc.length cpp, .int .i64 (St : Int)] 48)) := HB1.out.trans ((below_one w1 _).mono HB1.out.size)
      refine (HD.out _ (HBw.out.trans (hbA.mono HBw.out.size))).mono ?_
      rintro e w2 ⟨cv2, pv2, rfl, hc2, hp2, hb2⟩
      obtain ⟨adc2, cpc2, rfl⟩ := rown_slice hc2
      obtain ⟨adp2, cpp2, rfl⟩ := rown_slice hp2
      obtain ⟨O1, hO1⟩ : ∃ O1, w1.heap.size = O1 := ⟨_, rfl⟩
      have hbB : Below w1.heap.size w1 w2 := (below_one w1 _).trans (hb2.mono (by simp))
      have hO2 : w2.heap[O1]? = some (.cells #[.int .i64 (C : Int), .int .u64 (Bt : Int), .slice adc ch.length cpc, .slice adp pc.length cpp, .int .i64 (St : Int)] 48 (0, 0)) := by rw [← hO1]; exact (hb2.block w1.heap.size (by simp)).trans (heap_alloc_new w1 _)
      have hs1 : Sl w2 (.slice adc ch.length cpc) ch := (sl_of HC1.out).below hbB
      have hs2 : Sl w2 (.slice adp pc.length cpp) pc := (sl_of HP1.out).below hbB
      have hs3 := sl_of hc2
      have hs4 := sl_of hp2
      have HSO := hide (fun w' (kk : Below w2.heap.size w2 w') => sameOutcome_eq (c := C) (b := Bt) (st := St) (ch := ch) (pc := pc) ⟨_, _, rfl, hs1.below kk, hs2.below kk⟩ ⟨_, _, rfl, hs3.below kk, hs4.below kk⟩ (by omega) (by omega))
      obtain ⟨o0, o1, o2, o3, o4, oz⟩ := five_of hO2
      have hOl2 := lt_of_block hO2
      have HO2 := hide hO2
      have HBt2 : Hid (Below wt.heap.size wt w2) := HB1.out.trans (hbB.mono HB1.out.size)
      have HK12 : Hid (Wk w2 wt.heap.size (.slice adc ch.length cpc) ch.length) := (show Wk w1 wt.heap.size _ _ from ⟨_, HC1.out⟩).below hbB
      have HK22 : Hid (Wk w2 wt.heap.size (.slice adp pc.length cpp) pc.length) := (show Wk w1 wt.heap.size _ _ from ⟨_, HP1.out⟩).below hbB
      have HGC : Hid (∀ g, Value.ownBlock (.slice adc ch.length cpc) = some g → g < O1) := fun g e => by rw [← hO1]; exact (HC1.out.lt g e).2
      have HGP : Hid (∀ g, Value.ownBlock (.slice adp pc.length cpp) = some g → g < O1) := fun g e => by rw [← hO1]; exact (HP1.out.lt g e).2
      have hO1t : wt.heap.size ≤ O1 := by rw [← hO1]; exact HB1.out.size
      have hneO2 : ¬ O1 = w2.heap.size := by omega
      clear hc2 hp2 hb2 hbA hbB hO2 hs1 hs2 hs3 hs4 p01 p11 HC1 HP1 HB1
      go_wp2_with fail
      refine (HSO.out _ (below_one w2 _)).mono ?_
      rintro e w3 ⟨rfl, hb3⟩
      have hb23 : Below w2.heap.size w2 w3 := (below_one w2 _).trans (hb3.mono (by simp))
      have HO := hide ((hb23.block _ hOl2).trans HO2.out)
      have HK1 := hide (HK12.out.below hb23)
      have HK2 := hide (HK22.out.below hb23)
      have HBt := hide (HBt2.out.trans (hb23.mono HBt2.out.size))
      have hOl3 := lt_of_block HO.out
      obtain ⟨o0, o1, o2, o3, o4, oz⟩ := five_of HO.out
      clear hb3 hb23 HO2 HK12 HK22 HBt2 HSO
      have hgc : ∀ g, Value.ownBlock (.slice adc ch.length cpc) = some g → g < O1 := HGC.out
      have hgp : ∀ g, Value.ownBlock (.slice adp pc.length cpp) = some g → g < O1 := HGP.out
      go_wp2_with fail
      go_loopw [8] (fun t wr => ∃ q : Nat, t = .int .i64 (q : Int) ∧ q ≤ ch.length ∧ Hid (Wk wr wt.heap.size (.slice adc ch.length cpc) ch.length) ∧ Hid (Wk wr wt.heap.size (.slice adp pc.length cpp) pc.length) ∧ Hid (wr.heap[O1]? = some (.cells #[.int .i64 (C : Int), .int .u64 (Bt : Int), .slice adc ch.length cpc, .slice adp pc.length cpp, .int .i64 (St : Int)] 48 (0, 0))) ∧ Hid (Below wt.heap.size wt wr)) (fun t _ => ch.length - (intOf t).toNat)
      case atStart => exact ⟨0, rfl, Nat.zero_le _, HK1.out, HK2.out, HO.out, HBt.out⟩
      case round =>
        clear HK1 HK2 HO HBt o0 o1 o2 o3 o4 oz
        obtain ⟨q, rfl, hq, HK1, HK2, HO, HBt⟩ := hrel
        have hOl := lt_of_block HO.out
        obtain ⟨o0, o1, o2, o3, o4, oz⟩ := five_of HO.out
        by_cases hlt : q < ch.length
        · obtain ⟨gw, u, hgw, hgb, hgl, cw, fw⟩ := HK1.out.at q hlt
          subst hgw
          have hgO := hgc gw rfl
          have hqi : (q : Int) < (ch.length : Int) := by omega
          have hqn : ¬ ch.length ≤ q := by omega
          have hneO : ¬ gw = O1 := by omega
          have hneO' : ¬ O1 = gw := by omega
          go_wp2_with fail
          go_roundw
          case rel =>
            have HF1 := HK1.out.put gw q (.string ⟨#[115, 112, 111, 105, 108, 116]⟩)
            have HF2 := HK2.out.put gw q (.string ⟨#[115, 112, 111, 105, 108, 116]⟩)
            have HF3 := ((grown_set wr gw q (.string ⟨#[115, 112, 111, 105, 108, 116]⟩)).block O1 hOl (by simp; omega)).trans HO.out
            have HF4 := HBt.out.trans (below_put wr gw q (.string ⟨#[115, 112, 111, 105, 108, 116]⟩) hgb)
            first
              | exact ⟨q + 1, by go_num, by omega, HF1, HF2, HF3, HF4⟩
              | exact ⟨_, _, ⟨q + 1, by go_num, by omega, HF1, HF2, HF3, HF4⟩, rfl, rfl⟩
          case measure => simp [intOf]; omega
        · obtain rfl : q = ch.length := by omega
          have hqi : ¬ ((ch.length : Nat) : Int) < ((ch.length : Nat) : Int) := by omega
          go_wp2_with fail
          go_loopw [9] (fun t wr => ∃ q : Nat, t = .int .i64 (q : Int) ∧ q ≤ pc.length ∧ Hid (Wk wr wt.heap.size (.slice adc ch.length cpc) ch.length) ∧ Hid (Wk wr wt.heap.size (.slice adp pc.length cpp) pc.length) ∧ Hid (wr.heap[O1]? = some (.cells #[.int .i64 (C : Int), .int .u64 (Bt : Int), .slice adc ch.length cpc, .slice adp pc.length cpp, .int .i64 (St : Int)] 48 (0, 0))) ∧ Hid (Below wt.heap.size wt wr)) (fun t _ => pc.length - (intOf t).toNat)
          case atStart => exact ⟨0, rfl, Nat.zero_le _, HK1.out, HK2.out, HO.out, HBt.out⟩
          case round =>
            clear HK1 HK2 HO HBt o0 o1 o2 o3 o4 oz
            obtain ⟨q, rfl, hq, HK1, HK2, HO, HBt⟩ := hrel
            have hOl := lt_of_block HO.out
            obtain ⟨o0, o1, o2, o3, o4, oz⟩ := five_of HO.out
            by_cases hlt : q < pc.length
            · obtain ⟨gw, u, hgw, hgb, hgl, cw, fw⟩ := HK2.out.at q hlt
              subst hgw
              have hgO := hgp gw rfl
              have hqi : (q : Int) < (pc.length : Int) := by omega
              have hqn : ¬ pc.length ≤ q := by omega
              have hneO : ¬ gw = O1 := by omega
              have hneO' : ¬ O1 = gw := by omega
              go_wp2_with fail
              go_roundw
              case rel =>
                have HF1 := HK1.out.put gw q (.string ⟨#[115, 112, 111, 105, 108, 116]⟩)
                have HF2 := HK2.out.put gw q (.string ⟨#[115, 112, 111, 105, 108, 116]⟩)
                have HF3 := ((grown_set wr gw q (.string ⟨#[115, 112, 111, 105, 108, 116]⟩)).block O1 hOl (by simp; omega)).trans HO.out
                have HF4 := HBt.out.trans (below_put wr gw q (.string ⟨#[115, 112, 111, 105, 108, 116]⟩) hgb)
                first
                  | exact ⟨q + 1, by go_num, by omega, HF1, HF2, HF3, HF4⟩
                  | exact ⟨_, _, ⟨q + 1, by go_num, by omega, HF1, HF2, HF3, HF4⟩, rfl, rfl⟩
              case measure => simp [intOf]; omega
            · obtain rfl : q = pc.length := by omega
              have hqi : ¬ ((pc.length : Nat) : Int) < ((pc.length : Nat) : Int) := by omega
              obtain ⟨xsr, hxr⟩ := HK1.out
              obtain ⟨i0, hi0, hz0, hz1, hz2⟩ := info_parts infoStr
              have HXR := hide hxr
              have hszr := HBt.out.size
              clear hxr
              go_wp2_with (at_builtin; refine wpList_append_lies _ rfl (.tmp 57) (.tmp 58) 46 rfl wt.heap.size 9 i0 (.string ⟨#[]⟩) 1 16 Tryz.underlying46 hi0 hz0 hz1 hz2 rfl (by decide) (.slice adc ch.length cpc) ch.length xsr rfl (rown_grown HXR.out (grown_one wr (.cells #[.string ⟨#[98, 101, 104, 105, 110, 100]⟩] 9) none) (fun _ _ => by simp)) ⟨wr.heap.size, 0, none⟩ 1 1 [.string ⟨#[98, 101, 104, 105, 110, 100]⟩] rfl (by simp) (World.news_of_block (cs := #[.string ⟨#[98, 101, 104, 105, 110, 100]⟩]) (t := 9) (fr := (0, 0)) (heap_alloc_new wr (.cells #[.string ⟨#[98, 101, 104, 105, 110, 100]⟩] 9))) (by simp [Value.oneCell']) (by decide) (by unfold maxLen; omega) (by omega) (by rw [World.size_alloc]; omega) (wr.heap.size + 1) (by rw [World.size_alloc]) ?_; intro g7 cap7 w7 hown hgrow hat hlt7; have c7 := hown.cells rfl ch.length (.string ⟨#[98, 101, 104, 105, 110, 100]⟩) (by have := HXR.out.1; rw [Nat.mul_one] at this; rw [List.getElem?_append_right (by omega)]; simp [this]); rw [addr_add, Nat.zero_add] at c7; have hg7 := (hown.lt g7 rfl).1; have z7 := own_z hown; have HGR := hide hgrow; clear hgrow hat hown)
              have hF : Below wt.heap.size wr w7 := ⟨HGR.out.os, HGR.out.tape, HGR.out.output, Nat.le_trans (by rw [World.size_alloc]; omega) HGR.out.size, fun kk hkk => (HGR.out.block kk (by rw [World.size_alloc]; omega) (fun e => by have := (HXR.out.lt kk e.symm).1; omega)).trans (heap_alloc_old wr _ (by omega))⟩
              have hFin := (HBt.out.trans hF).trans (below_put w7 g7 ch.length (.string ⟨#[115, 112, 111, 105, 108, 116]⟩) hg7)
              go_roundw
              case rel => exact ⟨k + 1, by go_num, by omega, HB.out.trans (hFin.mono (by omega))⟩
              case measure => simp [intOf]; omega
    · obtain rfl : k = 2 := by omega
      go_wp2_with fail
      refine (iawake_true _ (HT.out.below HBw.out)).mono ?_
      rintro e w9 ⟨rfl, hb9⟩
      go_wp2_with fail
      go_ret
      exact ⟨rfl, HBw.out.trans (hb9.mono HBw.out.size)⟩
/-- a Whole that tells, as a row of answers -/
theorem whp_ok {W : World} {e : Ending} {w' : World} {I : Mc × List (Nat × ByteArray)} (h : ∃ o, e = .returned (.tuple #[o, .int .i64 0]) ∧ Out w' W.heap.size o I ∧ Below W.heap.size W w') : WhP W (Im.resC I.1) (Im.resB I.1) I.1.dn 0 (Im.chk I.2) (Im.pcs I.2) e w' := by
  obtain ⟨o, rfl, ⟨cv, pv, rfl, h1, h2⟩, h3⟩ := h
  exact ⟨cv, pv, rfl, h1, h2, h3⟩
theorem interpWhole_walk (fuel : Int) (xs : List In) (hx : ∀ x ∈ xs, x.Fits) (v : Value) (w : World) (h : Cd w v xs) (hT : Tbs w) :
    Calls Tryz.prog 4 #[.agg #[.int .i64 fuel, v]] w fun e w' => e = .returned (.bool true) ∧ Below w.heap.size w w' := by
  have hv : ∃ p cap, v = .slice p xs.length cap := by obtain ⟨p, cap, hv, _⟩ := h; exact ⟨p, cap, hv⟩
  obtain ⟨p, cap, hv⟩ := hv
  by_cases hE : (Pg.checkE fuel xs).1 = 0
  · obtain ⟨f, rfl, hp⟩ := pok_of hx hE
    have hc := check_zz hp hE
    have hl := end_len xs f
    have hf := hp.f2
    refine interpWhole_core (f : Int) v xs.length p cap hv (Im.resC (Im.end_ xs f).1) (Im.resB (Im.end_ xs f).1) (Im.end_ xs f).1.dn 0 (Im.chk (Im.end_ xs f).2) (Im.pcs (Im.end_ xs f).2) ?_ ?_ w hT (fun W k => ?_) (fun W k => ?_)
    · have := chk_len (Im.end_ xs f).2; omega
    · have := pcs_len (Im.end_ xs f).2; omega
    · exact (whole_ok hx (h.below k (Nat.le_refl _)) hc hp (hT.below k)).mono fun e w' q => whp_ok q
    · exact (rwhole_ok hx (h.below k (Nat.le_refl _)) hc hp).mono fun e w' q => whp_ok q
  · refine interpWhole_core fuel v xs.length p cap hv 0 0 0 (Pg.checkE fuel xs).1 [] [] (by simp) (by simp) w hT (fun W k => ?_) (fun W k => ?_)
    · exact (whole_no hx (h.below k (Nat.le_refl _)) hE).mono fun e w' q => ⟨_, _, q.1, World.ownsRow_nil _ _ _ _, World.ownsRow_nil _ _ _ _, q.2⟩
    · exact (rwhole_no hx (h.below k (Nat.le_refl _)) hE).mono fun e w' q => ⟨_, _, q.1, World.ownsRow_nil _ _ _ _, World.ownsRow_nil _ _ _ _, q.2⟩
end Go.Proofs.YthjngodkpldpfaaGreatDoor
end
