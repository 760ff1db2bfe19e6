import Derived.Test.YtepondcflkledaaGreatMgBJ

section
namespace Go.Proofs.YtepondcflkledaaGreat.S
set_option maxRecDepth 20000
open Go.RowKit
open Rc (Ch)
open Q (Rr rr0 Qm Ft Mv)

/-- what Apply answers -/
def apN (m : Int) (s : Sx) (l : List Ch) : Int := if app m s l = none then (bad m s l : Int) else 0
def apE (m : Int) (s : Sx) (l : List Ch) : Int := if app m s l = none then 170 else 0
theorem AP.nv {N : Nat → Prop} {m : Int} {s : Sx} {l : List Ch} {b : Nat} {w w' : World} {e : Ending} (h : AP N m s l b w e w') (hS : Sd N w b m s) :
    e = .returned (.tuple #[.int .i64 (apN m s l), .int .i64 (apE m s l)]) ∧ Sd N w' b m (nxt1 m s l) ∧ Mv (fun g => g = b) (fun g => g = b) w w' := by
  cases h with
  | no h1 h2 h3 => exact ⟨by rw [h2]; unfold apN apE; rw [if_pos h1, if_pos h1], by unfold nxt1; rw [h1]; exact hS.below h3, Mv.of_below h3⟩
  | yes t h1 h2 h3 h4 => exact ⟨by rw [h2]; unfold apN apE; rw [if_neg (by rw [h1]; simp), if_neg (by rw [h1]; simp)], by unfold nxt1; rw [h1]; exact h3, h4⟩
set_option maxHeartbeats 4000000 in
set_option maxRecDepth 20000 in
theorem stateOnly_walk {w : World} {va vb vc : Value} {l m more : List Ch} (hR1 : Rw w va l) (hl1 : l.length ≤ 1353245080301) (hC1 : ∀ p n c, va = .slice p n c → n ≤ c ∧ c ≤ maxLen) (hR2 : Rw w vb m) (hl2 : m.length ≤ 1353245080301) (hC2 : ∀ p n c, vb = .slice p n c → n ≤ c ∧ c ≤ maxLen) (hR3 : Rw w vc more) (hl3 : more.length ≤ 1353245080301) (hC3 : ∀ p n c, vc = .slice p n c → n ≤ c ∧ c ≤ maxLen) :
    Calls Tryz.prog 5 #[va, vb, vc] w fun e w' => e = .returned (.bool true) ∧ Below w.heap.size w w' := by
  have hRw1 := hR1
  obtain ⟨pv1, cap1, rfl, hx1⟩ := hR1
  obtain ⟨hcap1, hcm1⟩ := hC1 _ _ _ rfl
  have HRB1 : Hid (∀ c ∈ l, c.rb < 18446744073709551616) := hide fun c hc => by
    obtain ⟨j, hj, e⟩ := List.getElem_of_mem hc
    obtain ⟨_, _, _, _, hcc⟩ := hx1 (by omega)
    obtain ⟨_, _, _, h3, _⟩ := hcc j hj
    rw [getElem!_pos l j hj, e] at h3
    exact h3
  have HX1 := hide hx1
  have HR1 := hide hRw1
  clear hx1 hRw1 hC1
  have hRw2 := hR2
  obtain ⟨pv2, cap2, rfl, hx2⟩ := hR2
  obtain ⟨hcap2, hcm2⟩ := hC2 _ _ _ rfl
  have HRB2 : Hid (∀ c ∈ m, c.rb < 18446744073709551616) := hide fun c hc => by
    obtain ⟨j, hj, e⟩ := List.getElem_of_mem hc
    obtain ⟨_, _, _, _, hcc⟩ := hx2 (by omega)
    obtain ⟨_, _, _, h3, _⟩ := hcc j hj
    rw [getElem!_pos m j hj, e] at h3
    exact h3
  have HX2 := hide hx2
  have HR2 := hide hRw2
  clear hx2 hRw2 hC2
  have hRw3 := hR3
  obtain ⟨pv3, cap3, rfl, hx3⟩ := hR3
  obtain ⟨hcap3, hcm3⟩ := hC3 _ _ _ rfl
  have HRB3 : Hid (∀ c ∈ more, c.rb < 18446744073709551616) := hide fun c hc => by
    obtain ⟨j, hj, e⟩ := List.getElem_of_mem hc
    obtain ⟨_, _, _, _, hcc⟩ := hx3 (by omega)
    obtain ⟨_, _, _, h3, _⟩ := hcc j hj
    rw [getElem!_pos more j hj, e] at h3
    exact h3
  have HX3 := hide hx3
  have HR3 := hide hRw3
  clear hx3 hRw3 hC3
  have HNa := hide (new_any w 3)
  go_enter Tryz.func5, Tryz.ntmps5
  go_wp2_with fail
  refine HNa.out.mono ?_
  rintro e w1 (⟨h1, _, _⟩ | ⟨bA, hyes, hok, rfl, hblA, hsdA, hb1⟩)
  · exact absurd (by decide) h1
  have hSA1 := hsdA (fun g => g = bA) (fun g hg => .inr hg)
  have HW0 := hide (wf0 hok)
  have HSA1 := hide hSA1
  have HB1 := hide hb1
  have hbA1 := hSA1.lt
  have HNb := hide (new_any w1 3)
  clear hb1 HNa hSA1 hsdA
  go_wp2_with fail
  refine HNb.out.mono ?_
  rintro e w2 (⟨h1, _, _⟩ | ⟨bB, _, _, rfl, hblB0, hsdB, hb2⟩)
  · exact absurd (by decide) h1
  obtain ⟨N, hN⟩ : ∃ N : Nat → Prop, N = fun g => g = bA ∨ g = bB := ⟨_, rfl⟩
  have HSB2 := hide (hsdB N (fun g hg => by rw [hN] at hg; rcases hg with rfl | rfl; exact .inl hbA1; exact .inr rfl))
  have HSA2 := hide ((HSA1.out.more (N' := N) (fun g hg => by rw [hN] at hg; rcases hg with rfl | rfl; exact .inl rfl; exact .inr hblB0)).below hb2)
  have HNe : Hid (¬ bA = bB) := hide (by omega)
  have HNe2 : Hid (¬ bB = bA) := hide (by omega)
  have HB2 := hide (HB1.out.trans (hb2.mono HB1.out.size))
  have hsw := HB1.out.size
  have hblB : w.heap.size ≤ bB := by omega
  have HmA : Hid (∀ g, g = bA → N g) := hide fun g hg => by rw [hN]; exact .inl hg
  have HmB : Hid (∀ g, g = bB → N g) := hide fun g hg => by rw [hN]; exact .inr hg
  have HNd : Hid (∀ g, N g → g = bA ∨ g = bB) := hide fun g hg => by rw [hN] at hg; exact hg
  clear hsdB hb2 HNb HSA1 HB1 hN hbA1 hblB0 hsw
  go_wp2_with fail
  go_loopw [11] (fun u wr => ∃ (i : Nat) (s : Sx), u = .int .i64 (i : Int) ∧ i ≤ l.length ∧ Hid (Wf 3 s) ∧ Hid (Pz s) ∧ Hid (Sd N wr bA 3 s) ∧ Hid (Sd N wr bB 3 sx0) ∧ Hid (Below w.heap.size w wr)) (fun u _ => l.length - (intOf u).toNat)
  case atStart => exact ⟨0, sx0, rfl, Nat.zero_le _, HW0, hide pz0, HSA2, HSB2, HB2⟩
  case round =>
    obtain ⟨i, s, rfl, hi, HWs, HZs, HSm, HSo, HB⟩ := hrel
    by_cases hil : i < l.length
    · obtain ⟨bb, off, hpv, hlt, hcc⟩ := HX1.out (by omega)
      subst hpv
      have hii : (i : Int) < (l.length : Int) := by omega
      have hic : (i : Int) + 1 ≤ (cap1 : Int) := by omega
      have hRs := rw_sub (HR1.out.below HB.out (Nat.le_refl _)) (i := i) (k := i + 1) (Nat.le_succ _) hil (cap1 - i)
      have e11 : i + 1 - i = 1 := by omega
      rw [e11] at hRs
      have HRl : Hid (∀ c ∈ (l.drop i).take 1, c.rb < 18446744073709551616) := hide fun c hc => HRB1.out c (List.mem_of_mem_drop (List.mem_of_mem_take hc))
      have HAy := hide (apply_any HSm.out (fun g hg => by rcases HNd.out g hg with rfl | rfl; exact HSm.out.lt; exact HSo.out.lt) (HmA.out _ rfl) HWs.out hRs (by rw [List.length_take, List.length_drop]; omega))
      have HWn := hide (nxt1_wf HWs.out HRl.out)
      have HZn := hide (nxt1_pz HWs.out HRl.out HZs.out)
      clear hRs hcc
      go_wp2_with fail
      refine HAy.out.mono ?_
      intro e w2 hAP
      obtain ⟨p0, q0, rfl, hS, hM⟩ := hAP.nx HSm.out
      have HSn := hide hS
      have HSp := hide (HSo.out.mv hM HNe2.out HmA.out)
      have HBn := hide (HB.out.trans (hM.below (B := w.heap.size) HB.out.size (fun g hg => by rw [hg]; exact hblA)))
      clear hAP hS hM HAy HSm HSo HB
      go_wp2_with fail
      go_roundw
      case rel => exact ⟨i + 1, _, by go_num, by omega, HWn, HZn, HSn, HSp, HBn⟩
      case measure => simp only [intOf]; omega
    · obtain rfl : i = l.length := by omega
      have hii : ¬ ((l.length : Int) < (l.length : Int)) := by omega
      go_wp2_with fail
      go_loopw [12] (fun u wr => ∃ (i : Nat) (sb : Sx), u = .int .i64 (i : Int) ∧ i ≤ m.length ∧ Hid (Wf 3 sb) ∧ Hid (Pz sb) ∧ Hid (Sd N wr bB 3 sb) ∧ Hid (Sd N wr bA 3 s) ∧ Hid (Below w.heap.size w wr)) (fun u _ => m.length - (intOf u).toNat)
      case atStart => exact ⟨0, sx0, rfl, Nat.zero_le _, HW0, hide pz0, HSo, HSm, HB⟩
      case round =>
        clear HSm HSo HB
        obtain ⟨k, sb, rfl, hk, HWb, HZb, HSm, HSo, HB⟩ := hrel
        by_cases hil : k < m.length
        · obtain ⟨bb, off, hpv, hlt, hcc⟩ := HX2.out (by omega)
          subst hpv
          have hii : (k : Int) < (m.length : Int) := by omega
          have hic : (k : Int) + 1 ≤ (cap2 : Int) := by omega
          have hRs := rw_sub (HR2.out.below HB.out (Nat.le_refl _)) (i := k) (k := k + 1) (Nat.le_succ _) hil (cap2 - k)
          have e11 : k + 1 - k = 1 := by omega
          rw [e11] at hRs
          have HRl : Hid (∀ c ∈ (m.drop k).take 1, c.rb < 18446744073709551616) := hide fun c hc => HRB2.out c (List.mem_of_mem_drop (List.mem_of_mem_take hc))
          have HAy := hide (apply_any HSm.out (fun g hg => by rcases HNd.out g hg with rfl | rfl; exact HSo.out.lt; exact HSm.out.lt) (HmB.out _ rfl) HWb.out hRs (by rw [List.length_take, List.length_drop]; omega))
          have HWn := hide (nxt1_wf HWb.out HRl.out)
          have HZn := hide (nxt1_pz HWb.out HRl.out HZb.out)
          clear hRs hcc
          go_wp2_with fail
          refine HAy.out.mono ?_
          intro e w2 hAP
          obtain ⟨p0, q0, rfl, hS, hM⟩ := hAP.nx HSm.out
          have HSn := hide hS
          have HSp := hide (HSo.out.mv hM HNe.out HmB.out)
          have HBn := hide (HB.out.trans (hM.below (B := w.heap.size) HB.out.size (fun g hg => by rw [hg]; exact hblB)))
          clear hAP hS hM HAy HSm HSo HB
          go_wp2_with fail
          go_roundw
          case rel => exact ⟨k + 1, _, by go_num, by omega, HWn, HZn, HSn, HSp, HBn⟩
          case measure => simp only [intOf]; omega
        · obtain rfl : k = m.length := by omega
          have hii : ¬ ((m.length : Int) < (m.length : Int)) := by omega
          have hsA8 := HWs.out.ok.len
          obtain ⟨ba, hba⟩ : ∃ ba : ByteArray, (⟨(bys s).toArray⟩ : ByteArray) = ba := ⟨_, rfl⟩
          obtain ⟨bb, hbb⟩ : ∃ bb : ByteArray, (⟨(bys sb).toArray⟩ : ByteArray) = bb := ⟨_, rfl⟩
          have hbaL : ba.toList = bys s := by rw [← hba, ByteArray.toList_eq]
          have hbbL : bb.toList = bys sb := by rw [← hbb, ByteArray.toList_eq]
          obtain ⟨D, hDe⟩ : ∃ D, decide (bys s = bys sb) = D := ⟨_, rfl⟩
          have hD : (ba.toList == bb.toList) = D := by
            rw [← hDe, hbaL, hbbL, Bool.eq_iff_iff]
            simp
          have HVD : Hid (decide (s.res = sb.res ∧ jps s = jps sb) = D) := hide (by rw [← hDe]; exact decide_eq_decide.mpr (see_eq HWs.out HWb.out HZs.out HZb.out))
          have HByA : Hid (∀ (N : Nat → Prop) (V : World) (b : Nat), Sd N V b 3 s → Calls Tryz.prog 12 #[.pointer (some ⟨b, 0, none⟩)] V fun e w' => e = .returned (.string ba) ∧ Below V.heap.size V w') := hide fun N V b hV => by have := bytes_any hV HWs.out; rw [hba] at this; exact this
          have HByB : Hid (∀ (N : Nat → Prop) (V : World) (b : Nat), Sd N V b 3 sb → Calls Tryz.prog 12 #[.pointer (some ⟨b, 0, none⟩)] V fun e w' => e = .returned (.string bb) ∧ Below V.heap.size V w') := hide fun N V b hV => by have := bytes_any hV HWb.out; rw [hbb] at this; exact this
          have HLd : Hid (∀ V : World, Calls Tryz.prog 10 #[.int .i64 3, .string ba] V fun e w' => ∃ c, e = .returned (.tuple #[.pointer (some ⟨c, 0, none⟩), .int .i64 0]) ∧ V.heap.size ≤ c ∧ (∀ N : Nat → Prop, (∀ g, N g → g < V.heap.size ∨ g = c) → Sd N w' c 3 s) ∧ Below V.heap.size V w') := hide fun V => by have := load_there (w := V) HWs.out HZs.out; rw [hba] at this; exact this
          have HC1 := hide (HByA.out _ _ _ HSo.out)
          clear hba hbb hbaL hbbL hDe
          go_wp2_with fail
          refine HC1.out.mono ?_
          rintro e w3 ⟨rfl, hb3⟩
          have HSa3 := hide (HSo.out.below hb3)
          have HSb3 := hide (HSm.out.below hb3)
          have HB3 := hide (HB.out.trans (hb3.mono HB.out.size))
          have HC2 := hide (HByB.out _ _ _ HSb3.out)
          clear hb3 HC1 HSo HSm HB
          go_wp2_with fail
          refine HC2.out.mono ?_
          rintro e w4 ⟨rfl, hb4⟩
          have HSa4 := hide (HSa3.out.below hb4)
          have HSb4 := hide (HSb3.out.below hb4)
          have HB4 := hide (HB3.out.trans (hb4.mono HB3.out.size))
          have HC3 := hide (view_any HSa4.out HWs.out)
          clear hb4 HC2 HSa3 HSb3 HB3 HByB
          go_wp2_with fail
          refine HC3.out.mono ?_
          rintro e w5 ⟨v1, J1, rfl, hJ1, hn1, hv1, hb5⟩
          have HSa5 := hide (HSa4.out.below hb5)
          have HSb5 := hide (HSb4.out.below hb5)
          have HB5 := hide (HB4.out.trans (hb5.mono HB4.out.size))
          have HJ1 := hide hJ1
          have Hn1 := hide hn1
          have Hv1 := hide hv1
          have HC4 := hide (view_any HSb5.out HWb.out)
          clear hb5 HC3 HSa4 HSb4 HB4 hJ1 hn1 hv1
          go_wp2_with fail
          refine HC4.out.mono ?_
          rintro e w6 ⟨v2, J2, rfl, hJ2, hn2, hv2, hb6⟩
          have HSa6 := hide (HSa5.out.below hb6)
          have HB6 := hide (HB5.out.trans (hb6.mono HB5.out.size))
          have hC5 := view_same (HJ1.out.below hb6) hJ2 HWs.out HWb.out Hn1.out hn2 Hv1.out hv2
          rw [HVD.out] at hC5
          have HC5 := hide hC5
          clear hb6 HC4 HSa5 HSb5 HB5 hJ2 hn2 hv2 HJ1 Hn1 Hv1 hC5 HVD
          go_wp2_with fail
          refine HC5.out.mono ?_
          rintro e w7 ⟨rfl, hb7⟩
          have HSa7 := hide (HSa6.out.below hb7)
          have HB7 := hide (HB6.out.trans (hb7.mono HB6.out.size))
          have HC6 := hide (HByA.out _ _ _ HSa7.out)
          clear hb7 HC5 HSa6 HB6
          go_wp2_with fail
          refine HC6.out.mono ?_
          rintro e w8 ⟨rfl, hb8⟩
          have HSa8 := hide (HSa7.out.below hb8)
          have HB8 := hide (HB7.out.trans (hb8.mono HB7.out.size))
          clear hb8 HC6 HSa7 HB7 HByA hD
          go_wp2_with fail
          refine (HLd.out _).mono ?_
          rintro e w9 ⟨c, rfl, hc, hsd, hb9⟩
          have hszr := HB8.out.size
          have hbAr := HSa8.out.lt
          have hcw : w.heap.size ≤ c := by omega
          have HNf : Hid (¬ bA = c) := hide (by omega)
          have HNf2 : Hid (¬ c = bA) := hide (by omega)
          obtain ⟨O, hO⟩ : ∃ O : Nat → Prop, O = fun g => g = bA ∨ g = c := ⟨_, rfl⟩
          have HSc := hide (hsd O (fun g hg => by rw [hO] at hg; rcases hg with rfl | rfl; exact .inl hbAr; exact .inr rfl))
          have HSa := hide ((HSa8.out.more (N' := O) (fun g hg => by rw [hO] at hg; rcases hg with rfl | rfl; exact .inl (HmA.out _ rfl); exact .inr hc)).below hb9)
          have HoA : Hid (∀ g, g = bA → O g) := hide fun g hg => by rw [hO]; exact .inl hg
          have HoC : Hid (∀ g, g = c → O g) := hide fun g hg => by rw [hO]; exact .inr hg
          have HOd : Hid (∀ g, O g → g = bA ∨ g = c) := hide fun g hg => by rw [hO] at hg; exact hg
          have HB9 := hide (HB8.out.trans (hb9.mono HB8.out.size))
          clear hsd hb9 hO HSa8 HB8 hc hbAr hszr HLd
          go_wp2_with fail
          go_loopw [14] (fun u wr => ∃ (j : Nat) (t : Sx), u = .int .i64 (j : Int) ∧ j ≤ more.length ∧ Hid (Wf 3 t) ∧ Hid (Pz t) ∧ Hid (Sd O wr bA 3 t) ∧ Hid (Sd O wr c 3 t) ∧ Hid (Below w.heap.size w wr)) (fun u _ => more.length - (intOf u).toNat)
          case atStart => exact ⟨0, s, rfl, Nat.zero_le _, HWs, HZs, HSa, HSc, HB9⟩
          case round =>
            clear HSa HSc HB9
            obtain ⟨j, t, rfl, hj, HWt, HZt, HSa, HSc, HB⟩ := hrel
            by_cases hjl : j < more.length
            · obtain ⟨bb3, off3, hpv, hlt, hcc⟩ := HX3.out (by omega)
              subst hpv
              have hii : (j : Int) < (more.length : Int) := by omega
              have hic : (j : Int) + 1 ≤ (cap3 : Int) := by omega
              have hRs := rw_sub HR3.out (i := j) (k := j + 1) (Nat.le_succ _) hjl (cap3 - j)
              have e11 : j + 1 - j = 1 := by omega
              rw [e11] at hRs
              have HRs := hide hRs
              have HRl : Hid (∀ c ∈ (more.drop j).take 1, c.rb < 18446744073709551616) := hide fun c hc => HRB3.out c (List.mem_of_mem_drop (List.mem_of_mem_take hc))
              have HLl : Hid (((more.drop j).take 1).length ≤ 1407374883553280) := hide (by rw [List.length_take, List.length_drop]; omega)
              have HWn := hide (nxt1_wf HWt.out HRl.out)
              have HZn := hide (nxt1_pz HWt.out HRl.out HZt.out)
              obtain ⟨q, hq⟩ : ∃ q, (more.drop j).take 1 = q := ⟨_, rfl⟩
              rw [hq] at HRs HRl HLl HWn HZn
              obtain ⟨t2, ht2⟩ : ∃ t2, nxt1 3 t q = t2 := ⟨_, rfl⟩
              rw [ht2] at HWn HZn
              have Ht2 := hide ht2
              obtain ⟨x0, hx0⟩ : ∃ x0, apN 3 t q = x0 := ⟨_, rfl⟩
              obtain ⟨y0, hy0⟩ : ∃ y0, apE 3 t q = y0 := ⟨_, rfl⟩
              have Hxy := hide (And.intro hx0 hy0)
              obtain ⟨now, hnow⟩ : ∃ now : ByteArray, (⟨(bys t2).toArray⟩ : ByteArray) = now := ⟨_, rfl⟩
              have HBy : Hid (∀ (N : Nat → Prop) (V : World) (b : Nat), Sd N V b 3 t2 → Calls Tryz.prog 12 #[.pointer (some ⟨b, 0, none⟩)] V fun e w' => e = .returned (.string now) ∧ Below V.heap.size V w') := hide fun N V b hV => by have := bytes_any hV HWn.out; rw [hnow] at this; exact this
              have HAy := hide (apply_any HSa.out (fun g hg => by rcases HOd.out g hg with rfl | rfl; exact HSa.out.lt; exact HSc.out.lt) (HoA.out _ rfl) HWt.out (HRs.out.below HB.out (Nat.le_refl _)) HLl.out)
              clear hRs hcc hq ht2 hx0 hy0 hnow
              go_wp2_with fail
              refine HAy.out.mono ?_
              intro e w2 hAP
              obtain ⟨rfl, hS, hM⟩ := hAP.nv HSa.out
              rw [Ht2.out] at hS
              rw [Hxy.out.1, Hxy.out.2]
              have HSa2 := hide hS
              have HSc2 := hide (HSc.out.mv hM HNf2.out HoA.out)
              have HB2 := hide (HB.out.trans (hM.below (B := w.heap.size) HB.out.size (fun g hg => by rw [hg]; exact hblA)))
              have HAy := hide (apply_any HSc2.out (fun g hg => by rcases HOd.out g hg with rfl | rfl; exact HSa2.out.lt; exact HSc2.out.lt) (HoC.out _ rfl) HWt.out (HRs.out.below HB2.out (Nat.le_refl _)) HLl.out)
              clear hAP hS hM HSa HSc HB
              go_wp2_with fail
              refine HAy.out.mono ?_
              intro e w3 hAP
              obtain ⟨rfl, hS, hM⟩ := hAP.nv HSc2.out
              rw [Ht2.out] at hS
              rw [Hxy.out.1, Hxy.out.2]
              have HSc3 := hide hS
              have HSa3 := hide (HSa2.out.mv hM HNf.out HoC.out)
              have HB3 := hide (HB2.out.trans (hM.below (B := w.heap.size) HB2.out.size (fun g hg => by rw [hg]; exact hcw)))
              have HC1 := hide (HBy.out _ _ _ HSa3.out)
              clear hAP hS hM HSa2 HSc2 HB2
              go_wp2_with fail
              refine HC1.out.mono ?_
              rintro e w4 ⟨rfl, hb4⟩
              have HSa4 := hide (HSa3.out.below hb4)
              have HSc4 := hide (HSc3.out.below hb4)
              have HB4 := hide (HB3.out.trans (hb4.mono HB3.out.size))
              have HC2 := hide (HBy.out _ _ _ HSc4.out)
              clear hb4 HC1 HSa3 HSc3 HB3
              go_wp2_with fail
              refine HC2.out.mono ?_
              rintro e w5 ⟨rfl, hb5⟩
              have HSa5 := hide (HSa4.out.below hb5)
              have HSc5 := hide (HSc4.out.below hb5)
              have HB5 := hide (HB4.out.trans (hb5.mono HB4.out.size))
              clear hb5 HC2 HSa4 HSc4 HB4
              go_wp2_with fail
              go_roundw
              case rel => exact ⟨j + 1, t2, by go_num, by omega, HWn, HZn, HSa5, HSc5, HB5⟩
              case measure => simp only [intOf]; omega
            · obtain rfl : j = more.length := by omega
              have hii : ¬ ((more.length : Int) < (more.length : Int)) := by omega
              have HC1 := hide (view_any HSa.out HWt.out)
              go_wp2_with fail
              refine HC1.out.mono ?_
              rintro e w2 ⟨v1, J1, rfl, hJ1, hn1, hv1, hb2⟩
              have HSc2 := hide (HSc.out.below hb2)
              have HB2 := hide (HB.out.trans (hb2.mono HB.out.size))
              have HJ1 := hide hJ1
              have Hn1 := hide hn1
              have Hv1 := hide hv1
              have HC2 := hide (view_any HSc2.out HWt.out)
              clear hb2 HC1 HSa HSc HB hJ1 hn1 hv1
              go_wp2_with fail
              refine HC2.out.mono ?_
              rintro e w3 ⟨v2, J2, rfl, hJ2, hn2, hv2, hb3⟩
              have HB3 := hide (HB2.out.trans (hb3.mono HB2.out.size))
              have HC3 := hide (view_alike (rs := t.res) (HJ1.out.below hb3) hJ2 HWt.out Hn1.out hn2 Hv1.out hv2)
              clear hb3 HC2 HSc2 HB2 hJ2 hn2 hv2 HJ1 Hn1 Hv1
              go_wp2_with fail
              refine HC3.out.mono ?_
              rintro e w4 ⟨rfl, hb4⟩
              have HB4 := hide (HB3.out.trans (hb4.mono HB3.out.size))
              clear hb4 HC3 HB3
              go_wp2_with fail
              refine (sfixed_any _).mono ?_
              rintro e w5 ⟨rfl, hb5⟩
              have HB5 := hide (HB4.out.trans (hb5.mono HB4.out.size))
              clear hb5 HB4
              go_wp2_with fail
              go_ret
              exact ⟨rfl, HB5.out⟩
end Go.Proofs.YtepondcflkledaaGreat.S
end
