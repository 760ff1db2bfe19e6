import Derived.Test.YtnhibcadenmglabDkQ
namespace Go.Proofs.Ytnhibcadenmglab
open Go.RowKit

theorem arm_live {d : DS} (h : d.dead = false) {n m : Int} (hn : 0 ≤ n) (hm : 0 ≤ m ∧ m ≤ 128) : d.arm n m = (0, { d with left := n, byt := m }) := by
  unfold DS.arm
  rw [if_neg (by simp [h]), if_neg (by omega)]
/-- armed, j writes ahead of the cut -/
structure Rdy (d : DS) (L M j : Nat) : Prop where
  ok : d.ok
  live : d.dead = false
  left : d.left = (j : Int)
  len : d.S.length = L
  few : d.R.length ≤ M
theorem Rdy.next {d : DS} {L M j : Nat} (h : Rdy d L M (j + 2)) {x : ByteArray} (hx : x.size = 128) : (d.write 0 x).1 = 0 ∧ Rdy (d.write 0 x).2 L (M + 1) (j + 1) := by
  have hl : 0 < d.S.length := h.ok.s0
  have e := DS.write_all h.live (k := 0) (by omega) hx (by rw [h.left]; omega)
  have ok := DS.write_ok h.ok 0 x
  rw [e] at ok ⊢
  refine ⟨rfl, ok, h.live, ?_, ?_, ?_⟩
  · show (if 0 < d.left then d.left - 1 else d.left) = _
    rw [if_pos (by rw [h.left]; omega), h.left]; omega
  · show (layS _ _ _).length = L; rw [layS_len]; exact h.len
  · show (d.R ++ [_]).length ≤ M + 1; rw [List.length_append]; have := h.few; simp; omega
theorem Rdy.cut {d : DS} {L M : Nat} (h : Rdy d L M 1) {x : ByteArray} (hx : x.size = 128) : (d.write 0 x).1 = 2 := by
  have hl : 0 < d.S.length := h.ok.s0
  rw [DS.write_cut h.live (k := 0) (by omega) hx (by rw [h.left]; rfl)]

set_option maxHeartbeats 4000000 in
set_option maxRecDepth 8000 in
theorem diskRefuses_walk {w : World} {ad ad2 : Option Addr} {ab ao cap ab2 ao2 cap2 : Nat} {l : List ByteArray} {R : List Wr} {n m z : Int} (h : Rs w ad ab ao l) (h2 : Rw w ad2 ab2 ao2 R) (hl : l.length ≤ 8796093021952) (hR : R.length ≤ 5864062014634) (_ : -9223372036854775808 ≤ n ∧ n ≤ 9223372036854775807) (_ : -9223372036854775808 ≤ m ∧ m ≤ 9223372036854775807) (hz : -9223372036854775808 ≤ z ∧ z ≤ 9223372036854775807) :
    Calls Try.prog 3 #[.agg #[.slice ad l.length cap, .slice ad2 R.length cap2, .int .i64 n, .int .i64 m], .int .i64 z] w fun e w' => e = .returned (.bool true) ∧ Below w.heap.size w w' := by
  obtain ⟨W0, hW0⟩ : ∃ W0, w.alloc (.cells #[.slice ad l.length cap, .slice ad2 R.length cap2, .int .i64 n, .int .i64 m] 25) = W0 := ⟨_, rfl⟩
  have hb0 : Below w.heap.size w W0 := by rw [← hW0]; exact (Below.refl _ w).alloc (Nat.le_refl _) _
  have hsz0 : W0.heap.size = w.heap.size + 1 := by rw [← hW0]; exact World.size_alloc _ _
  have hblk : W0.heap[w.heap.size]? = some (.cells #[.slice ad l.length cap, .slice ad2 R.length cap2, .int .i64 n, .int .i64 m] 25 (0, 0)) := by rw [← hW0]; exact heap_alloc_new w _
  have KC : Hid (∀ w1, Below W0.heap.size W0 w1 → w1.cell? ⟨w.heap.size, 0, none⟩ = some (.slice ad l.length cap) ∧ w1.cell? ⟨w.heap.size, 1, none⟩ = some (.slice ad2 R.length cap2)) := fun w1 hb => by
    have e := (hb.block _ (by omega)).trans hblk
    exact ⟨by simp [World.cell?, e], by simp [World.cell?, e]⟩
  have H0 := h.below hb0
  have H20 := h2.below hb0
  have HB0 := hide hb0
  have HSZ := hide hsz0
  by_cases hE : loadE l = 0
  · obtain ⟨h8, hp, hq⟩ := loadE_ok hE
    have HM := hide (made_yes (cap := cap) (cap2 := cap2) H0 H20 hE hR)
    obtain ⟨c0, c1⟩ := KC.out W0 (Below.refl _ _)
    have HCM := hide ((calm_fresh hE).wrs R)
    have HSL : Hid (((fresh l).wrs R).S.length = l.length) := (fresh l).wrs_slen R
    have HRL : Hid (((fresh l).wrs R).R.length ≤ R.length) := show _ ≤ _ by have := (fresh l).wrs_len R; simpa [fresh] using this
    generalize (fresh l).wrs R = D at *
    have KS : Hid (∀ w1, Below W0.heap.size W0 w1 → w1.cell? ⟨ab, ao, none⟩ = some (.string l[0])) := fun w1 hb => (H0.below hb).cell 0 hp
    have hs8 := h8.get hp
    have ea := H0.at_ hp
    subst ea
    generalize l[0] = s0 at *
    have HX8 := hide hs8
    clear h h2 hsz0 hblk hE hs8 H0 H20
    go_enter Try.func3, Try.ntmps3
    go_wp2_with fail
    clear hW0
    refine HM.out.mono ?_
    rintro e w1 ⟨b, F, rfl, hD, hb1⟩
    have HD1 := hide hD
    have HB1 := hide hb1
    clear hD hb1 HM c0 c1
    go_wp2_with fail
    refine (place_any (m := 3) (by decide) (by decide) hz).mono ?_
    rintro e w1' ⟨p, hp3, rfl, e1⟩
    have e1' := e1.symm
    subst e1'
    clear e1
    have hA := arm_any HD1.out (1 + (p : Int)) 5 (by omega)
    rw [arm_live HCM.out.live (by omega) (by decide)] at hA
    have hA' := hA.mono (fun e w' (he : _ ∧ _) => he)
    have HA := hide hA
    have HRdy : Hid (Rdy { D with left := 1 + (p : Int), byt := 5 } l.length R.length (p + 1)) :=
      ⟨⟨HCM.out.ok.s128, by show (0 : Int) ≤ 1 + (p : Int); omega, by show 1 + (p : Int) ≤ _; omega, (by decide : (0 : Int) ≤ 5), (by decide : (5 : Int) ≤ 128), HCM.out.ok.s0, HCM.out.ok.s1⟩, HCM.out.live, by show 1 + (p : Int) = _; omega, HSL.out, HRL.out⟩
    clear hA hA' HSL HRL HCM
    generalize ({ D with left := 1 + (p : Int), byt := 5 } : DS) = E at *
    go_wp2_with fail
    refine HA.out.mono ?_
    rintro e w2 ⟨rfl, hD2, hM2⟩
    have HD2 : Hid (Dk W0.heap.size w2 b F E) := hD2
    have HB2 := hide (HB1.out.trans (hM2.below HB1.out.size HD1.out.ftlow))
    clear hD2 hM2 HA HD1 HB1
    have hRl := HRdy.out.few
    have hSl := HRdy.out.len
    go_wp2_with fail
    refine (sectors_rs HD2.out).mono ?_
    rintro e w3 ⟨ad3, cap3, ab3, rfl, hr3, _, hb3⟩
    have HR3 := hide hr3
    have HD3 := hide (HD2.out.below hb3)
    have HB3 := hide (HB2.out.trans (below_up hb3 HB2.out.size))
    clear hr3 hb3 HD2 HB2
    go_wp2_with fail
    refine (raw_rw HD3.out (by omega)).mono ?_
    rintro e w4 ⟨ad4, cap4, ab4, rfl, hr4, _, hb4⟩
    have HR4 := hide hr4
    have HS4 := hide (HR3.out.below hb4)
    have HD4 := hide (HD3.out.below hb4)
    have HB4 := hide (HB3.out.trans (below_up hb4 HB3.out.size))
    clear hr4 hb4 HD3 HB3 HR3
    obtain ⟨c0, c1⟩ := KC.out w4 HB4.out
    have hc0 := KS.out w4 HB4.out
    have HSZ4 := hide (size_any HD4.out)
    go_wp2_with fail
    refine HSZ4.out.mono ?_
    rintro e w5 ⟨rfl, e1⟩
    have e1' := e1.symm
    subst e1'
    clear e1
    rw [hSl]
    have hxa : (s0 ++ ⟨#[97]⟩).size = 129 := by rw [ByteArray.size_append, HX8.out]; rfl
    have W1 := hide (write_still HD4.out (-1) s0 (.inr (.inl (by omega))))
    rw [DS.write_none HRdy.out.live (by omega)] at W1
    have W2 := hide (write_still HD4.out (l.length : Int) s0 (.inr (.inl (by rw [hSl]; omega))))
    rw [DS.write_none HRdy.out.live (by rw [hSl]; omega)] at W2
    have W3 := hide (write_still HD4.out 0 ⟨#[]⟩ (.inr (.inr (by decide))))
    rw [DS.write_size HRdy.out.live (by rw [hSl]; omega) (by decide)] at W3
    have W4 := hide (write_still HD4.out 0 (s0 ++ ⟨#[97]⟩) (.inr (.inr (by rw [hxa]; decide))))
    rw [DS.write_size HRdy.out.live (by rw [hSl]; omega) (by rw [hxa]; decide)] at W4
    have A1 := hide (arm_still HD4.out (-1) 0 HRdy.out.live (.inl (by decide)))
    have A2 := hide (arm_still HD4.out 1 (-1) HRdy.out.live (.inr (by decide)))
    have A3 := hide (arm_still HD4.out 1 129 HRdy.out.live (.inr (by decide)))
    have hcat : s0.size + 1 ≤ 9223372036854775807 := by rw [HX8.out]; decide
    have HS0 := hide hSl
    clear hSl hxa
    go_wp2_with fail
    refine W1.out.mono ?_
    rintro e w5 ⟨rfl, e1⟩
    have e1' := e1.symm
    subst e1'
    clear e1 W1
    go_wp2_with fail
    refine W2.out.mono ?_
    rintro e w5 ⟨rfl, e1⟩
    have e1' := e1.symm
    subst e1'
    clear e1 W2
    go_wp2_with fail
    refine W3.out.mono ?_
    rintro e w5 ⟨rfl, e1⟩
    have e1' := e1.symm
    subst e1'
    clear e1 W3
    go_wp2_with fail
    refine W4.out.mono ?_
    rintro e w5 ⟨rfl, e1⟩
    have e1' := e1.symm
    subst e1'
    clear e1 W4
    go_wp2_with fail
    refine A1.out.mono ?_
    rintro e w5 ⟨rfl, e1⟩
    have e1' := e1.symm
    subst e1'
    clear e1 A1
    go_wp2_with fail
    refine A2.out.mono ?_
    rintro e w5 ⟨rfl, e1⟩
    have e1' := e1.symm
    subst e1'
    clear e1 A2
    go_wp2_with fail
    refine A3.out.mono ?_
    rintro e w5 ⟨rfl, e1⟩
    have e1' := e1.symm
    subst e1'
    clear e1 A3
    have hsc := sectors_rs HD4.out
    rw [HS0.out] at hsc
    have HSC := hide hsc
    clear hsc
    go_wp2_with fail
    refine HSC.out.mono ?_
    rintro e w5 ⟨ad5, cap5, ab5, rfl, hr5, _, hb5⟩
    have hsm := same_b (cap := cap5) (cap' := cap3) hr5 (HS4.out.below hb5) (by rw [HS0.out]; exact hl)
    rw [HS0.out] at hsm
    have HSM := hide hsm
    have HD5 := hide (HD4.out.below hb5)
    have HB5 := hide (HB4.out.trans (below_up hb5 HB4.out.size))
    have HR5 := hide (HR4.out.below hb5)
    clear hsm hr5 hb5 HSC HD4 HB4 HR4 HS4
    go_wp2_with fail
    refine HSM.out.mono ?_
    rintro e w6 ⟨rfl, hb6⟩
    have HD6 := hide (HD5.out.below hb6)
    have HB6 := hide (HB5.out.trans (below_up hb6 HB5.out.size))
    have HR6 := hide (HR5.out.below hb6)
    clear hb6 HSM HD5 HB5 HR5
    go_wp2_with fail
    refine (raw_rw HD6.out (by omega)).mono ?_
    rintro e w7 ⟨ad7, cap7, ab7, rfl, hr7, _, hb7⟩
    have HSM := hide (sameRaw_b (cap := cap7) (cap' := cap4) hr7 (HR6.out.below hb7) (by omega))
    have HD7 := hide (HD6.out.below hb7)
    have HB7 := hide (HB6.out.trans (below_up hb7 HB6.out.size))
    clear hr7 hb7 HD6 HB6 HR6
    go_wp2_with fail
    refine HSM.out.mono ?_
    rintro e w8 ⟨rfl, hb8⟩
    have HD8 := hide (HD7.out.below hb8)
    have HB8 := hide (HB7.out.trans (below_up hb8 HB7.out.size))
    clear hb8 HD7 HB7 HSM hRl
    go_wp2_with fail
    go_loopw [12] (fun u wr => ∃ (i : Nat) (d : DS) (F' : Nat → Prop), u = .int .i64 ((i : Int) + 1) ∧ i ≤ p ∧ Hid (Rdy d l.length (R.length + i) (p + 1 - i)) ∧ Hid (Dk W0.heap.size wr b F' d) ∧ Hid (Below W0.heap.size W0 wr)) (fun u _ => (p + 1 - (intOf u).toNat))
    case atStart => exact ⟨0, E, F, rfl, Nat.zero_le _, HRdy, HD8, HB8⟩
    case round =>
      obtain ⟨i, d, F', rfl, hi, HRd, HD, HB⟩ := hrel
      have hW := write_any HD.out 0 s0 (by have := HRd.out.few; omega)
      by_cases hil : i < p
      · have b0 : decide ((i : Int) + 1 < 1 + (p : Int)) = true := by simp; omega
        have hr : Rdy d l.length (R.length + i) (p - 1 - i + 2) := by have := HRd.out; rwa [show p + 1 - i = p - 1 - i + 2 by omega] at this
        obtain ⟨h1, h2⟩ := hr.next HX8.out
        rw [h1] at hW
        have HW := hide hW
        have HR2 : Hid (Rdy (d.write 0 s0).2 l.length (R.length + (i + 1)) (p + 1 - (i + 1))) := show Rdy _ _ _ _ by rw [show p + 1 - (i + 1) = p - 1 - i + 1 by omega]; exact h2
        generalize (d.write 0 s0).2 = d2 at *
        clear hr h1 h2 hW
        go_wp2_with (go_at_call 14; refine HW.out.mono ?_; rintro e w9 ⟨rfl, F9, hD9, hM9⟩; have HD9 := hide hD9; have HB9 := hide (HB.out.trans (hM9.below HB.out.size HD.out.ftlow)); clear hD9 hM9)
        exact ⟨⟨i + 1, d2, F9, by go_num, by omega, HR2, HD9, HB9⟩, by simp [intOf]; omega⟩
      · obtain rfl : i = p := by omega
        have b0 : decide ((i : Int) + 1 < 1 + (i : Int)) = false := by simp; omega
        have hr : Rdy d l.length (R.length + i) 1 := by have := HRd.out; rwa [show i + 1 - i = 1 by omega] at this
        rw [hr.cut HX8.out] at hW
        have HW := hide hW
        clear hr hW
        go_wp2_with (first
          | (go_at_call 14; refine HW.out.mono ?_; rintro e w9 ⟨rfl, F9, hD9, hM9⟩; have HB9 := hide (HB.out.trans (hM9.below HB.out.size HD.out.ftlow)); clear hD9 hM9)
          | (go_at_call 8; refine (fixed_true w9).mono ?_; rintro e w10 ⟨rfl, hb10⟩; have HB10 := hide (HB9.out.trans (below_up hb10 HB9.out.size)); clear hb10))
        go_ret
        exact ⟨rfl, HB0.out.trans (below_up HB10.out (by have := HSZ.out; omega))⟩
  · have HM := hide (made_no (cap := cap) (v := .slice ad2 R.length cap2) H0 hE hl)
    have HN := hide (rload_no (cap := cap) H0 hE hl)
    have HFX := hide (fixed_true W0)
    obtain ⟨c0, c1⟩ := KC.out W0 (Below.refl _ _)
    generalize loadE l = E at *
    have h10 : (E != 0) = true := by simpa using hE
    clear h h2 hsz0 hblk
    go_enter Try.func3, Try.ntmps3
    go_wp2_with (first
      | (go_at_call 6; clear hW0; refine HM.out.mono ?_; rintro e w2 ⟨rfl, rfl⟩)
      | (go_at_call 7; refine HN.out.mono ?_; rintro e w2 ⟨rfl, rfl⟩)
      | (go_at_call 8; refine HFX.out.mono ?_; rintro e w3 ⟨rfl, hb3⟩; have HB3 := hide hb3; clear hb3))
    go_ret
    exact ⟨rfl, HB0.out.trans (below_up HB3.out (by have := HSZ.out; omega))⟩
end Go.Proofs.Ytnhibcadenmglab
