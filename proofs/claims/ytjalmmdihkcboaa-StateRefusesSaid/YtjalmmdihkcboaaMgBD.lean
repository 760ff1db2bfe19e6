import Derived.Test.YtjalmmdihkcboaaMgBB
import Derived.Test.YtjalmmdihkcboaaMgBC

section
namespace Go.Proofs.Ytjalmmdihkcboaa.S
open Go.RowKit
open Rc (Ch)
open Q (Rr rr0 Qm Ft Mv)

set_option maxHeartbeats 4000000 in
set_option maxRecDepth 20000 in
theorem stateRefuses_walk (x : Int) (_ : -9223372036854775808 ≤ x) (_ : x ≤ 9223372036854775807) {w : World} {va : Value} {L : List (List Ch)} (hO : Orw w va L) (hl : L.length ≤ 2932031007317) :
    Calls Try.prog 4 #[.int .i64 x, va] w fun e w' => e = .returned (.bool true) ∧ Below w.heap.size w w' := by
  obtain ⟨pv, cap, rfl, hx0⟩ := hO
  have HX0 := hide hx0
  clear hx0
  have HNa := hide (new_any w x)
  go_enter Try.func4, Try.ntmps4
  go_wp2_with fail
  refine HNa.out.mono ?_
  rintro e w1 (⟨hno, rfl, hb1⟩ | ⟨bA, hyes, hok, rfl, hblA, hsdA, hb1⟩)
  · have HB1 := hide hb1
    have HNb := hide (new_any w1 x)
    clear hb1 HNa
    go_wp2_with fail
    refine HNb.out.mono ?_
    rintro e w2 (⟨_, rfl, hb2⟩ | ⟨_, h1, _, _, _, _, _⟩)
    rotate_left
    · exact absurd h1 hno
    have HB2 := hide (HB1.out.trans (hb2.mono HB1.out.size))
    clear hb2 HB1 HNb
    by_cases hx1 : x < 1
    · have d1 : decide (x < 1) = true := decide_eq_true hx1
      go_wp2_with fail
      refine (sfixed_any _).mono ?_
      rintro e w3 ⟨rfl, hb3⟩
      have HB3 := hide (HB2.out.trans (hb3.mono HB2.out.size))
      clear hb3 HB2
      go_wp2_with fail
      go_ret
      exact ⟨rfl, HB3.out⟩
    · have hx8 : 8 < x := by omega
      have d1 : decide (x < 1) = false := decide_eq_false hx1
      have d2 : decide (8 < x) = true := decide_eq_true hx8
      go_wp2_with fail
      refine (sfixed_any _).mono ?_
      rintro e w3 ⟨rfl, hb3⟩
      have HB3 := hide (HB2.out.trans (hb3.mono HB2.out.size))
      clear hb3 HB2
      go_wp2_with fail
      go_ret
      exact ⟨rfl, HB3.out⟩
  have hSA1 := hsdA (fun g => g = bA) (fun g hg => .inr hg)
  have HW0 := hide (wf0 hok)
  have HSA1 := hide hSA1
  have HB1 := hide hb1
  have hbA1 := hSA1.lt
  have HNb := hide (new_any w1 x)
  clear hb1 HNa hSA1 hsdA
  go_wp2_with fail
  refine HNb.out.mono ?_
  rintro e w2 (⟨h1, _, _⟩ | ⟨bB, _, _, rfl, hblB, hsdB, hb2⟩)
  · exact absurd hyes h1
  obtain ⟨N, hN⟩ : ∃ N : Nat → Prop, N = fun g => g = bA ∨ g = bB := ⟨_, rfl⟩
  have hSB2 := hsdB N (fun g hg => by rw [hN] at hg; rcases hg with rfl | rfl; exact .inl hbA1; exact .inr rfl)
  have hSA2 := (HSA1.out.more (N' := N) (fun g hg => by rw [hN] at hg; rcases hg with rfl | rfl; exact .inl rfl; exact .inr hblB)).below hb2
  have HNe : Hid (¬ bA = bB) := hide (by omega)
  have HNe2 : Hid (¬ bB = bA) := hide (by omega)
  have HB2 := hide (HB1.out.trans (hb2.mono HB1.out.size))
  have hsw := HB1.out.size
  have hbBw : w.heap.size ≤ bB := by omega
  have HSB2 := hide hSB2
  have HSA2 := hide hSA2
  have HmA : Hid (∀ g, g = bA → N g) := hide fun g hg => by rw [hN]; exact .inl hg
  have HmB : Hid (∀ g, g = bB → N g) := hide fun g hg => by rw [hN]; exact .inr hg
  have HNd : Hid (∀ g, N g → g = bA ∨ g = bB) := hide fun g hg => by rw [hN] at hg; exact hg
  clear hSB2 hSA2 hsdB hb2 HNb HSA1 HB1 hN
  go_wp2_with fail
  go_loopw [9] (fun u wr => ∃ (i : Nat) (sA : Sx), u = .int .i64 (i : Int) ∧ i ≤ L.length ∧ Hid (Wf x sA) ∧ Hid (Sd N wr bA x sA) ∧ Hid (Sd N wr bB x sA) ∧ Hid (Below w.heap.size w wr)) (fun u _ => L.length - (intOf u).toNat)
  case atStart => exact ⟨0, sx0, rfl, Nat.zero_le _, HW0, HSA2, HSB2, HB2⟩
  case round =>
    clear HSA2 HSB2 HB2 HW0
    obtain ⟨i, sA, rfl, hi, HWA, HSA, HSB, HB⟩ := hrel
    by_cases hil : i < L.length
    · obtain ⟨bb, off, hpv, hlt, hcc⟩ := HX0.out (by omega)
      subst hpv
      have hii : (i : Int) < (L.length : Int) := by omega
      obtain ⟨t, hct, hRt, hlq, hcq⟩ := hcc i hil
      obtain ⟨q, hq⟩ : ∃ q, L[i]! = q := ⟨_, rfl⟩
      rw [hq] at hRt hlq
      clear hcc hq
      have HR := hide hRt
      obtain ⟨pq, cq, rfl, hxq⟩ := hRt
      obtain ⟨hcq1, hcq2⟩ := hcq _ _ _ rfl
      have HCt : Hid (∀ V, Below w.heap.size w V → V.cell? ⟨bb, off + i * 4 + 3, none⟩ = some (.slice pq q.length cq)) := hide fun V hV => (hV.cell (p := ⟨bb, off + i * 4 + 3, none⟩) hlt).trans hct
      have HXq := hide hxq
      have HRB : Hid (∀ c ∈ q, c.rb < 18446744073709551616) := hide fun c hc => by
        obtain ⟨j, hj, e⟩ := List.getElem_of_mem hc
        obtain ⟨_, _, _, _, hc2⟩ := hxq (by omega)
        obtain ⟨_, _, _, h3, _⟩ := hc2 j hj
        rw [getElem!_pos q j hj, e] at h3
        exact h3
      obtain ⟨was, hwas⟩ : ∃ was : ByteArray, (⟨(bys sA).toArray⟩ : ByteArray) = was := ⟨_, rfl⟩
      have HByA : Hid (∀ (N : Nat → Prop) (V : World) (b : Nat), Sd N V b x sA → Calls Try.prog 11 #[.pointer (some ⟨b, 0, none⟩)] V fun e w' => e = .returned (.string was) ∧ Below V.heap.size V w') := hide fun N V b hV => by have := bytes_any hV HWA.out; rw [hwas] at this; exact this
      have HB0 := hide (HByA.out _ _ _ HSA.out)
      clear hct hcq hxq hwas
      go_wp2_with fail
      refine HB0.out.mono ?_
      rintro e w3 ⟨rfl, hb3⟩
      have HSA3 := hide (HSA.out.below hb3)
      have HSB3 := hide (HSB.out.below hb3)
      have HB3 := hide (HB.out.trans (hb3.mono HB.out.size))
      have c3 := HCt.out _ HB3.out
      have HAy := hide (apply_any HSA3.out (fun g hg => by rcases HNd.out g hg with rfl | rfl; exact HSA3.out.lt; exact HSB3.out.lt) (HmA.out _ rfl) HWA.out (HR.out.below HB3.out (Nat.le_refl _)) (by omega))
      clear hb3 HB0 HSA HSB HB
      go_wp2_with fail
      refine HAy.out.mono ?_
      rintro e w4 (⟨hbad, rfl, hb4⟩ | ⟨sB, hAa, rfl, hS, hM⟩)
      · obtain ⟨hblt, _⟩ := bad_none x q sA hbad
        obtain ⟨bd, hbd⟩ : ∃ bd, bad x sA q = bd := ⟨_, rfl⟩
        rw [hbd] at hblt ⊢
        have HSA4 := hide (HSA3.out.below hb4)
        have HSB4 := hide (HSB3.out.below hb4)
        have HB4 := hide (HB3.out.trans (hb4.mono HB3.out.size))
        have HBn := hide (HByA.out _ _ _ HSA4.out)
        clear hbad hbd hb4 HAy HSA3 HSB3 HB3 c3
        go_wp2_with fail
        refine HBn.out.mono ?_
        rintro e w5 ⟨rfl, hb5⟩
        have HSA5 := hide (HSA4.out.below hb5)
        have HSB5 := hide (HSB4.out.below hb5)
        have HB5 := hide (HB4.out.trans (hb5.mono HB4.out.size))
        have c5 := HCt.out _ HB5.out
        have g1 : ¬ ((bd : Int) < 0) := by omega
        have g2 : ¬ ((q.length : Int) ≤ (bd : Int)) := by omega
        clear hb5 HBn HSA4 HSB4 HB4
        go_wp2_with fail
        go_roundw
        case rel => exact ⟨i + 1, sA, by go_num, by omega, HWA, HSA5, HSB5, HB5⟩
        case measure => simp only [intOf]; omega
      · have HSA4 := hide hS
        have HSB4 := hide (HSB3.out.mv hM HNe2.out HmA.out)
        have HB4 := hide (HB3.out.trans (hM.below (B := w.heap.size) HB3.out.size (fun g hg => by rw [hg]; exact hblA)))
        have HAa := hide hAa
        have HWB := hide (app_wf HWA.out HRB.out hAa)
        clear hS hM hAa HAy HSA3 HSB3 HB3 c3
        go_wp2_with fail
        go_loopw [13] (fun u wv => ∃ (k : Nat) (st : Sx), u = .int .i64 (k : Int) ∧ k ≤ q.length ∧ Hid (app x sA (q.take k) = some st) ∧ Hid (Sd N wv bA x sB) ∧ Hid (Sd N wv bB x st) ∧ Hid (Below w.heap.size w wv)) (fun u _ => q.length - (intOf u).toNat)
        case atStart => exact ⟨0, sA, rfl, Nat.zero_le _, hide rfl, HSA4, HSB4, HB4⟩
        case round =>
          clear HSA4 HSB4 HB4
          obtain ⟨k, st, rfl, hk, HAk, HSAk, HSBk, HBk⟩ := hrel
          have ck := HCt.out _ HBk.out
          by_cases hkl : k < q.length
          · obtain ⟨bq, oq, hpq, hlq2, _⟩ := HXq.out (by omega)
            subst hpq
            have hki : (k : Int) < (q.length : Int) := by omega
            have hkc : (k : Int) + 1 ≤ (cq : Int) := by omega
            have hRs := rw_sub (HR.out.below HBk.out (Nat.le_refl _)) (i := k) (k := k + 1) (Nat.le_succ _) hkl (cq - k)
            obtain ⟨v, hv1, hv2⟩ := app_part (k := k + 1) (Nat.le_succ k) HAa.out HAk.out
            have e11 : k + 1 - k = 1 := by omega
            rw [e11] at hRs hv1
            have hWk := app_wf HWA.out (fun c hc => HRB.out c (List.mem_of_mem_take hc)) HAk.out
            have HAy := hide (apply_any HSBk.out (fun g hg => by rcases HNd.out g hg with rfl | rfl; exact HSAk.out.lt; exact HSBk.out.lt) (HmB.out _ rfl) hWk hRs (by rw [List.length_take, List.length_drop]; omega))
            have HV1 := hide hv1
            have HV2 := hide hv2
            clear hRs hv1 hv2 hWk
            go_wp2_with fail
            refine HAy.out.mono ?_
            rintro e w5 (⟨hbad, _, _⟩ | ⟨sC, hAc, rfl, hS, hM⟩)
            · rw [HV1.out] at hbad; cases hbad
            obtain rfl : v = sC := by rw [HV1.out] at hAc; injection hAc
            have HSA5 := hide (HSAk.out.mv hM HNe.out HmB.out)
            have HSB5 := hide hS
            have HB5 := hide (HBk.out.trans (hM.below (B := w.heap.size) HBk.out.size (fun g hg => by rw [hg]; exact hbBw)))
            clear hAc hS hM HAy HSAk HSBk HBk ck
            go_wp2_with fail
            go_roundw
            case rel => exact ⟨k + 1, v, by go_num, by omega, HV2, HSA5, HSB5, HB5⟩
            case measure => simp only [intOf]; omega
          · obtain rfl : k = q.length := by omega
            have hki : ¬ ((q.length : Int) < (q.length : Int)) := by omega
            have hst : sB = st := by have := HAk.out; rw [List.take_length, HAa.out] at this; injection this
            subst hst
            obtain ⟨now, hnow⟩ : ∃ now : ByteArray, (⟨(bys sB).toArray⟩ : ByteArray) = now := ⟨_, rfl⟩
            have HByB : Hid (∀ (N : Nat → Prop) (V : World) (b : Nat), Sd N V b x sB → Calls Try.prog 11 #[.pointer (some ⟨b, 0, none⟩)] V fun e w' => e = .returned (.string now) ∧ Below V.heap.size V w') := hide fun N V b hV => by have := bytes_any hV HWB.out; rw [hnow] at this; exact this
            have HB0 := hide (HByB.out _ _ _ HSAk.out)
            clear hnow
            go_wp2_with fail
            refine HB0.out.mono ?_
            rintro e w5 ⟨rfl, hb5⟩
            have HSA5 := hide (HSAk.out.below hb5)
            have HSB5 := hide (HSBk.out.below hb5)
            have HB5 := hide (HBk.out.trans (hb5.mono HBk.out.size))
            have HB0 := hide (HByB.out _ _ _ HSB5.out)
            clear hb5 HSAk HSBk HBk ck
            go_wp2_with fail
            refine HB0.out.mono ?_
            rintro e w6 ⟨rfl, hb6⟩
            have HSA6 := hide (HSA5.out.below hb6)
            have HSB6 := hide (HSB5.out.below hb6)
            have HB6 := hide (HB5.out.trans (hb6.mono HB5.out.size))
            clear hb6 HSA5 HSB5 HB5
            go_wp2_with fail
            go_roundw
            case rel => exact ⟨i + 1, sB, by go_num, by omega, HWB, HSA6, HSB6, HB6⟩
            case measure => simp only [intOf]; omega
    · obtain rfl : i = L.length := by omega
      have hii : ¬ ((L.length : Int) < (L.length : Int)) := by omega
      go_wp2_with fail
      refine (sfixed_any _).mono ?_
      rintro e w3 ⟨rfl, hb3⟩
      have HB3 := hide (HB.out.trans (hb3.mono HB.out.size))
      clear hb3 HB
      go_wp2_with fail
      go_ret
      exact ⟨rfl, HB3.out⟩
end Go.Proofs.Ytjalmmdihkcboaa.S
end
