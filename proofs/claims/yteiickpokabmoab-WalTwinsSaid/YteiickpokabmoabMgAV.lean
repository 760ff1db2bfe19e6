import Derived.Test.YteiickpokabmoabMgAU

section
namespace Go.Proofs.Yteiickpokabmoab
open Go.RowKit Go.Shelf
open Wl (Hd WS Log)

theorem TwI.next {w0 : World} {b W : Nat} {l : List ByteArray} {d : D.DS} {ws : WS} {F : Nat → Prop} {w : World} (h : TwI w0 b W l d ws F w) (r : ByteArray) :
    ∃ l', Con (Wl.append d ws r).2.1 (Wl.append d ws r).2.2 ⟨#[]⟩ l' ∧ (Wl.append d ws r).2.2.h.num = 1 + l'.length ∧ (Wl.append d ws r).2.1.R.length ≤ 1 + 600 * l'.length := by
  have hnum : ws.h.num < 1099511627776 := by have := h.nm; have := h.small; omega
  rcases h.con.append_or hnum r with ⟨_, hC, hh, hR, _⟩ | ⟨_, hd, hw⟩
  · refine ⟨l ++ [r], hC, ?_, ?_⟩
    · rw [hh]; show ws.h.num + 1 = _; rw [h.nm, List.length_append, List.length_singleton]; omega
    · rw [List.length_append, List.length_singleton]; exact Nat.le_trans hR (by have := h.rl; omega)
  · rw [hd, hw]; exact ⟨l, h.con, h.nm, h.rl⟩
set_option maxHeartbeats 4000000 in
set_option maxRecDepth 8000 in
theorem walTwins_walk {w : World} {z : Int} (hz : -9223372036854775808 ≤ z ∧ z ≤ 9223372036854775807) {ad : Option Addr} {tb tf cap : Nat} {T : List ByteArray} (hT : D.Rs w ad tb tf T) (hTl : T.length ≤ 8796093021952) :
    Calls Try.prog 3 #[.int .i64 z, .slice ad T.length cap] w fun e w' => e = .returned (.bool true) ∧ Below w.heap.size w w' := by
  by_cases hz1 : z < 1
  · clear hT
    go_enter Try.func3, Try.ntmps3
    go_wp2_with fail
    refine (fixed_any _).mono ?_
    rintro e w1 ⟨rfl, hB1⟩
    go_wp2_with fail
    go_ret
    exact ⟨rfl, hB1⟩
  by_cases hz2 : 512 < z
  · clear hT
    go_enter Try.func3, Try.ntmps3
    go_wp2_with fail
    refine (fixed_any _).mono ?_
    rintro e w1 ⟨rfl, hB1⟩
    go_wp2_with fail
    go_ret
    exact ⟨rfl, hB1⟩
  obtain ⟨half, rfl⟩ : ∃ half : Nat, z = (half : Int) := ⟨z.toNat, by omega⟩
  have HL := hide (laid_any half (by omega) (by omega) w)
  have HT := hide hT
  clear hT hz
  go_enter Try.func3, Try.ntmps3
  go_wp2_with fail
  refine HL.out.mono ?_
  rintro e w1 ⟨b, W, d1, F1, rfl, hT1⟩
  have HK0 := hide hT1
  clear hT1 HL
  go_wp2_with fail
  go_loopw [7] (fun s wr => ∃ (i : Nat) (l : List ByteArray) (d : D.DS) (ws : WS) (F : Nat → Prop), i ≤ T.length ∧ s = .int .i64 (i : Int) ∧ Hid (TwI w b W l d ws F wr)) (fun s _ => T.length - (intOf s).toNat)
  case atStart => exact ⟨0, [], d1, _, F1, Nat.zero_le _, rfl, HK0⟩
  case round =>
    obtain ⟨i, l, d, ws, F, hi, rfl, HK⟩ := hrel
    clear HK0
    by_cases hil : i < T.length
    · have hii : (i : Int) < (T.length : Int) := by omega
      have hat := HT.out.at_ (by omega)
      subst hat
      have hTb : tb < w.heap.size := HT.out.lt (by omega)
      have HX1 : Hid (∀ V, Below w.heap.size w V → V.cell? ⟨tb, tf + i, none⟩ = some (.string T[i])) := hide fun V hV => (hV.cell (p := ⟨tb, tf + i, none⟩) hTb).trans (HT.out.cell i hil)
      have HFt := hide (fun k hk => (HK.out.dk.ftlt k hk).2)
      have hWr := lt_of_block HK.out.wm
      have hw0 := HK.out.bel.size
      have hRb := HK.out.R
      obtain ⟨l', hC', hnm', hrl'⟩ := HK.out.next T[i]
      have HCl := hide (D.clone_any HK.out.dk (Nat.le_trans (Nat.mul_le_mul_right 24 (by omega)) hRb))
      generalize T[i] = r at *
      go_wp2_with fail
      refine HCl.out.mono ?_
      rintro e w2 ⟨c, Fc, rfl, hDc, hB2⟩
      have HK2 := hide (HK.out.below hB2)
      have h2s := hB2.size
      have HWc := hide (wclone_any (b2 := c) HK2.out.wm)
      have HFc := hide (fun k hk => hDc.ftlt k hk)
      have HDc := hide hDc
      clear hDc hB2 HCl
      go_wp2_with fail
      refine HWc.out.mono ?_
      rintro e w3 ⟨rfl, hX3, hB3⟩
      obtain ⟨X, hXX⟩ : ∃ X, w2.heap.size = X := ⟨_, rfl⟩
      rw [hXX] at hX3 ⊢
      have HK3 := hide (HK2.out.below hB3)
      have HDc3 := hide (HDc.out.below hB3)
      have HX3 := hide hX3
      have h3l := lt_of_block hX3
      have hFcX : ¬ Fc X := fun k => absurd (HFc.out X k).2 (by omega)
      have x3 := HX1.out w3 HK3.out.bel
      have hT3 : tb < w3.heap.size := Nat.lt_of_lt_of_le hTb HK3.out.bel.size
      have HA := hide (append_any HK3.out.dk HK3.out.wm HK3.out.nf HK3.out.con.wok (Nat.le_trans (Nat.mul_le_mul_right 24 (by omega)) hRb) r)
      clear hX3 hB3 HWc HDc HK2
      go_wp2_with fail
      refine HA.out.mono ?_
      rintro e w4 ⟨rfl, hW4, F4, hD4, hM4, hn4⟩
      have HDc4 := hide (HDc3.out.mv hM4 (fun k hk e => by have h5 := (HFc.out k hk).1; rcases e with e | e; have := HFt.out k e; omega; omega))
      have HX4 : Hid (Wm w4 X c ws) := hide ((hM4.block X h3l (fun e => by rcases e with e | e; have := HFt.out X e; omega; omega)).trans HX3.out)
      have HB4 : Hid (Below w.heap.size w w4) := hide (HK3.out.bel.trans (hM4.below HK3.out.bel.size (fun k e => by rcases e with e | e; exact HK3.out.dk.ftlow k e; rw [e]; exact HK3.out.hW)))
      have HF4 : Hid (∀ k, F4 k → (k < wr.heap.size ∨ w3.heap.size ≤ k) ∧ k < w4.heap.size) := hide fun k hk => ⟨by
        rcases hM4.foot k (.inl hk) with (e | e) | e
        · exact .inl (HFt.out k e)
        · exact .inl (by omega)
        · exact .inr e, (hD4.ftlt k hk).2⟩
      have h4s := hM4.size
      have x4 := HX1.out w4 HB4.out
      have hT4 : tb < w4.heap.size := Nat.lt_of_lt_of_le hTb HB4.out.size
      have HD4 := hide hD4
      have HW4 := hide hW4
      have HA4 := hide (append_any HDc4.out HX4.out hFcX HK3.out.con.wok (Nat.le_trans (Nat.mul_le_mul_right 24 (by omega)) hRb) r)
      have hWW := HK3.out.hW
      clear hD4 hW4 hM4 HA HDc3 HX3 HK3 x3
      generalize Wl.append d ws r = Y at *
      obtain ⟨xe, xd, xw⟩ := Y
      simp only at HD4 HW4 HA4 hC' hnm' hrl'
      go_wp2_with fail
      refine HA4.out.mono ?_
      rintro e w5 ⟨rfl, hX5, Fc5, hDc5, hM5, hn5⟩
      have HNo : Hid (∀ k, F4 k → ¬ FW Fc X k) := hide fun k hk e => by
        have h5 := (HF4.out k hk).1
        rcases e with e | e
        · have := HFc.out k e; omega
        · omega
      have HD5 := hide (HD4.out.mv hM5 HNo.out)
      have HW5 : Hid (Wm w5 W b xw) := hide ((hM5.block W (lt_of_block HW4.out) (fun e => by rcases e with e | e; have := (HFc.out W e).1; omega; omega)).trans HW4.out)
      have HB5 : Hid (Below w.heap.size w w5) := hide (HB4.out.trans (hM5.below HB4.out.size (fun k e => by rcases e with e | e; have := (HFc.out k e).1; omega; omega)))
      have HF5 : Hid (∀ k, F4 k → ¬ FW Fc5 X k) := hide fun k hk e => by
        rcases e with e | e
        · rcases hM5.foot k (.inl e) with e | e
          · exact HNo.out k hk e
          · have := (HF4.out k hk).2; omega
        · exact HNo.out k hk (.inr e)
      have HF5l : Hid (∀ k, FW Fc5 X k → k < w5.heap.size ∧ w.heap.size ≤ k) := hide fun k e => by
        have h5 := hM5.size
        rcases e with e | e
        · have h6 := hDc5.ftlt k e; omega
        · omega
      have hWn : ¬ FW Fc5 X W := fun e => by
        rcases e with e | e
        · rcases hM5.foot W (.inl e) with (e | e) | e
          · have := (HFc.out W e).1; omega
          · omega
          · have := lt_of_block HW4.out; omega
        · omega
      have HDc5 := hide hDc5
      have HX5 := hide hX5
      clear hX5 hDc5 hM5 HA4 HDc4 HX4 HD4 HW4 HB4 HNo x4
      have HSc := hide (D.sectors_any HDc5.out)
      have bx : (xe != xe) = false := by simp
      go_wp2_with fail
      refine HSc.out.mono ?_
      rintro e w6 ⟨v6, rfl, hO6, hB6⟩
      have HSd := hide (D.sectors_any (HD5.out.below hB6))
      have HO6 := hide hO6
      have HB6 := hide hB6
      clear HSc hO6 hB6
      go_wp2_with fail
      refine HSd.out.mono ?_
      rintro e w7 ⟨v7, rfl, hO7, hB7⟩
      obtain ⟨ad6, cp6, rfl⟩ := D.own_slice HO6.out
      obtain ⟨ad7, cp7, rfl⟩ := D.own_slice hO7
      have hSl : xd.S.length ≤ 1026 := hC'.ok.s1
      have HB57 : Hid (Below w5.heap.size w5 w7) := hide (HB6.out.trans (hB7.mono HB6.out.size))
      obtain ⟨-, r6, hR6⟩ := D.Rs.own (D.own_keep HO6.out fun k hk => hB7.block k (own_lo HO6.out hk).2)
      obtain ⟨-, r7, hR7⟩ := D.Rs.own hO7
      have HS1 := hide (D.same_true (cap := cp6) (cap' := cp7) hR6 hR7 (by omega))
      clear HSd HO6 HB6 hO7 hB7 hR6 hR7
      go_wp2_with fail
      refine HS1.out.mono ?_
      rintro e w8 ⟨rfl, n1, rfl⟩
      have HB58 : Hid (Below w5.heap.size w5 (w7.drewN n1)) := hide (HB57.out.trans ((D.below_drewN w7 n1).mono HB57.out.size))
      generalize w7.drewN n1 = w8 at *
      have HSd := hide (D.sectors_any (HD5.out.below HB58.out))
      clear HS1 HB57
      go_wp2_with fail
      refine HSd.out.mono ?_
      rintro e w9 ⟨v9, rfl, hO9, hB9⟩
      have HB59 := hide (HB58.out.trans (hB9.mono HB58.out.size))
      have h58 := HB58.out.size
      have hnum' : xw.h.num < 1099511627776 := by
        have h5 := hC'.wok.rc
        rw [hC'.rc] at h5
        omega
      have HRx : Hid ((xd.R.length + 600) * 24 ≤ 140737488355328) := hide (by
        have h5 := hC'.wok.rc
        rw [hC'.rc] at h5
        exact Nat.le_trans (Nat.mul_le_mul_right 24 (show xd.R.length + 600 ≤ 100000000 by omega)) (by decide))
      have HSn := hide (snapshot_any (HDc5.out.below HB59.out) (HX5.out.below HB59.out) hn5 hC'.wok HRx.out one (by decide))
      have HRc := hide (hC'.snap hnum').2
      have HO9 := hide hO9
      obtain ⟨ad9, cp9, rfl⟩ := D.own_slice hO9
      clear hO9 hB9 HSd HB58
      go_wp2_with fail
      refine HSn.out.mono ?_
      rintro e w10 ⟨rfl, hX10, F10, hD10, hM10, hn10⟩
      have h59 := HB59.out.size
      have HD10 := hide ((HD5.out.below HB59.out).mv hM10 HF5.out)
      have HW10 : Hid (Wm w10 W b xw) := hide ((hM10.block W (lt_of_block (HW5.out.below HB59.out)) hWn).trans (HW5.out.below HB59.out))
      have HB10 : Hid (Below w.heap.size w w10) := hide ((HB5.out.trans (HB59.out.mono HB5.out.size)).trans (hM10.below (Nat.le_trans HB5.out.size h59) (fun k e => (HF5l.out k e).2)))
      have HO10 := hide (D.own_keep HO9.out fun k hk => hM10.block k (own_lo HO9.out hk).2 (fun e => by have h5 := (HF5l.out k e).1; have h6 := (own_lo HO9.out hk).1; omega))
      have HX10 := hide hX10
      have HSd := hide (D.sectors_any HD10.out)
      clear hX10 hD10 hM10 HSn HDc5 HX5 HD5 HW5 HB5 HF5 HF5l HO9 HB59
      go_wp2_with fail
      refine HSd.out.mono ?_
      rintro e w11 ⟨v11, rfl, hO11, hB11⟩
      obtain ⟨ad11, cp11, rfl⟩ := D.own_slice hO11
      obtain ⟨-, r11, hR11⟩ := D.Rs.own hO11
      obtain ⟨-, r9, hR9⟩ := D.Rs.own (D.own_keep HO10.out fun k hk => hB11.block k (own_lo HO10.out hk).2)
      have HS2 := hide (D.same_true (cap := cp11) (cap' := cp9) hR11 hR9 (by omega))
      have HB11 := hide hB11
      clear HSd hO11 hB11 hR11 hR9 HO10
      go_wp2_with fail
      refine HS2.out.mono ?_
      rintro e w12 ⟨rfl, n2, rfl⟩
      have HB12 : Hid (Below w10.heap.size w10 (w11.drewN n2)) := hide (HB11.out.trans ((D.below_drewN w11 n2).mono HB11.out.size))
      generalize w11.drewN n2 = w12 at *
      have HRec := hide (records_any (HX10.out.below HB12.out))
      rw [HRc.out] at HRec
      have HTn : Hid (TwI w b W l' xd xw F4 w12) := hide (TwI.below ⟨hC', hnm', hrl', HD10.out, HW10.out, hn4, hWW, HB10.out⟩ HB12.out)
      clear HS2 HB11 HB12 HD10 HW10 HB10 HX10
      go_wp2_with fail
      refine HRec.out.mono ?_
      rintro e w13 ⟨rfl, rfl⟩
      clear HRec
      go_wp2_with fail
      go_roundw
      case rel => exact ⟨i + 1, l', xd, xw, F4, by omega, rfl, HTn⟩
      case measure => simp only [intOf]; omega
    · have hii : ¬ (i : Int) < (T.length : Int) := by omega
      have HB := hide HK.out.bel
      clear HK
      go_wp2_with fail
      refine (fixed_any _).mono ?_
      rintro e w2 ⟨rfl, hB2⟩
      have HB2 := hide (HB.out.trans (hB2.mono HB.out.size))
      clear hB2
      go_wp2_with fail
      go_ret
      exact ⟨rfl, HB2.out⟩
end Go.Proofs.Yteiickpokabmoab
end

section
namespace Go.Proofs.Yteiickpokabmoab
open Go.RowKit Go.Shelf
open Wl (Hd WS Log)

set_option maxHeartbeats 4000000 in
set_option maxRecDepth 8000 in
theorem walKeeps_walk {w : World} {ad : Option Addr} {tb tf cap : Nat} {T : List ByteArray} (hT : D.Rs w ad tb tf T) (hTl : T.length ≤ 8796093021952) :
    Calls Try.prog 4 #[.slice ad T.length cap] w fun e w' => e = .returned (.bool true) ∧ Below w.heap.size w w' := by
  obtain ⟨iS, hiS, zS0, zS1, zS2⟩ := info_parts D.Try.infoS
  obtain ⟨d1, hf1, hC1, hR1, hS1⟩ := con_format (n := 20) (by decide)
  have HN := hide (D.new_any (w := w) (n := 20) (by decide) (by decide))
  have HC1 := hide hC1
  have Hf1 := hide hf1
  have HR1 := hide hR1
  have HS1 := hide hS1
  have HT := hide hT
  clear hC1 hf1 hR1 hS1 hT
  go_enter Try.func4, Try.ntmps4
  go_wp2_with fail
  refine HN.out.mono ?_
  rintro e w1 ⟨b, F, rfl, hD, hB1⟩
  have HF := hide (format_any hD (by decide))
  have HFl1 := hide hD.ftlow
  have HB1 := hide hB1
  clear hD hB1 HN
  rw [Hf1.out] at HF
  go_wp2_with fail
  refine HF.out.mono ?_
  rintro e w2 ⟨rfl, F2, hD2, hM2⟩
  have HB2 := hide (HB1.out.trans (hM2.below HB1.out.size HFl1.out))
  have HO := hide (open_any hD2)
  have HD2 := hide hD2
  clear hD2 hM2 HF
  go_wp2_with fail
  refine HO.out.mono ?_
  intro e w3 hP
  obtain ⟨hB3, W, ad3, cp3, rfl, hW, hWm, -, -⟩ := HC1.out.opens hP
  have HB3 := hide (HB2.out.trans (hB3.mono HB2.out.size))
  have h2s := HB2.out.size
  have hFW : ¬ F2 W := fun k => absurd (HD2.out.ftlt W k).2 (by omega)
  have HK0 : Hid (KpI w b W (.slice (some ⟨w3.heap.size, 0, none⟩) 0 0) [] d1 ⟨Wl.h1, 0, false⟩ F2 (w3.alloc (.cells #[] 9))) := hide ⟨HC1.out, HS1.out, rfl, by rw [HR1.out]; decide, (HD2.out.below hB3).alloc _, hWm.below (below_alloc _ _), hFW, by omega, World.ownsRow_made w3 #[] 0 HB3.out.size (by decide) rfl, HB3.out.alloc HB3.out.size _⟩
  clear hP hB3 hWm HO HD2 HB1 HB2 HFl1
  go_wp2_with fail
  go_loopw [9, 10] (fun u t wr => ∃ (i : Nat) (v : Value) (l : List ByteArray) (d : D.DS) (ws : WS) (F : Nat → Prop), v = u ∧ i ≤ T.length ∧ t = .int .i64 (i : Int) ∧ Hid (KpI w b W v l d ws F wr)) (fun _ t _ => T.length - (intOf t).toNat)
  case atStart => exact ⟨0, _, [], d1, _, F2, rfl, Nat.zero_le _, rfl, HK0⟩
  case round =>
    obtain ⟨i, v, l, d, ws, F, rfl, hi, rfl, HK⟩ := hrel
    clear HK0 HC1 Hf1 HR1 HS1 HB3
    by_cases hil : i < T.length
    · have hii : (i : Int) < (T.length : Int) := by omega
      have hat := HT.out.at_ (by omega)
      subst hat
      have hbel := HK.out.bel
      have hTb : tb < w.heap.size := HT.out.lt (by omega)
      have x1 : wr.cell? ⟨tb, tf + i, none⟩ = some (.string T[i]) := (hbel.cell (p := ⟨tb, tf + i, none⟩) hTb).trans (HT.out.cell i hil)
      have hTw : tb < wr.heap.size := Nat.lt_of_lt_of_le hTb hbel.size
      have hnum : ws.h.num < 1099511627776 := by have := HK.out.nm; have := HK.out.small; omega
      have HA := hide (append_any HK.out.dk HK.out.wm HK.out.nf HK.out.con.wok HK.out.R T[i])
      have HOr := hide (HK.out.con.append_or hnum T[i])
      have HX1 : Hid (∀ V, Below w.heap.size w V → V.cell? ⟨tb, tf + i, none⟩ = some (.string T[i])) := hide fun V hV => (hV.cell (p := ⟨tb, tf + i, none⟩) hTb).trans (HT.out.cell i hil)
      generalize T[i] = r at *
      generalize Wl.append d ws r = X at *
      obtain ⟨xe, xd, xw⟩ := X
      simp only at HA HOr
      clear hbel
      go_wp2_with fail
      refine HA.out.mono ?_
      rintro e w4 ⟨rfl, hW4, F4, hD4, hM4, hn4⟩
      rcases HOr.out with ⟨h0, hC, hh, hRr, hS⟩ | ⟨h0, hd, hws⟩
      · subst h0
        have hnm2 : xw.h.num = 1 + (l ++ [r]).length := by rw [hh]; show ws.h.num + 1 = _; rw [HK.out.nm, List.length_append, List.length_singleton]; omega
        obtain ⟨k1, k2, k3, k4, k5, k6, k7, k8, k9⟩ := HK.out.called hC (by rw [hS]; exact HK.out.sl) hnm2 (by rw [List.length_append, List.length_singleton]; have := HK.out.rl; omega) hD4 hW4 hM4 hn4
        have x2 := HX1.out w4 k9
        have hT4 : tb < w4.heap.size := Nat.lt_of_lt_of_le hTb k9.size
        have hsm := HK.out.small
        have hWl := HK.out.hW
        have HK8 := hide k8
        have HK9 := hide k9
        have H15 := hide (And.intro k1 (And.intro k2 (And.intro k3 (And.intro k4 (And.intro k5 (And.intro k6 k7))))))
        clear hW4 hD4 hM4 hC hh hRr hS k1 k2 k3 k4 k5 k6 k7 k8 k9 HA HOr x1 hnm2 HX1
        go_wp2_with (at_builtin; refine wpList_append_own _ rfl _ _ 22 rfl w.heap.size 9 iS (.string ByteArray.empty) 1 16 Try.underlying22 hiS zS0 zS1 zS2 rfl (by decide) v l.length _ rfl (HK8.out.alloc _) ⟨w4.heap.size, 0, none⟩ 1 1 [.string r] rfl rfl (one_new _ _ _) (by intro u hu; simp at hu; subst hu; rfl) (by unfold maxLen; omega) (by omega) (by rw [World.size_alloc]; have := HK9.out.size; omega) ?_; intro va wa howna hgrowa hnila)
        refine ⟨⟨i + 1, va, l ++ [r], xd, xw, F4, rfl, by omega, rfl, hide (KpI.grown H15.out.1 H15.out.2.1 H15.out.2.2.1 H15.out.2.2.2.1 H15.out.2.2.2.2.1 H15.out.2.2.2.2.2.1 H15.out.2.2.2.2.2.2 hWl HK8.out HK9.out (below_alloc _ _) hgrowa (by rw [List.length_append, List.length_singleton, List.map_append]; exact howna))⟩, ?_⟩
        simp only [intOf]; omega
      · have bx : (xe == 0) = false := by simpa using h0
        subst hd hws
        obtain ⟨k1, k2, k3, k4, k5, k6, k7, k8, k9⟩ := HK.out.called HK.out.con HK.out.sl HK.out.nm HK.out.rl hD4 hW4 hM4 hn4
        have HK2 : Hid (KpI w b W v l xd xw F4 w4) := hide ⟨k1, k2, k3, k4, k5, k6, k7, HK.out.hW, k8, k9⟩
        clear hW4 hD4 hM4 k1 k2 k3 k4 k5 k6 k7 k8 k9 HA HOr x1 h0 HK HX1
        go_wp2_with fail
        go_roundw
        case rel => exact ⟨i + 1, v, l, xd, xw, F4, rfl, by omega, rfl, HK2⟩
        case measure => simp only [intOf]; omega
    · have hii : ¬ (i : Int) < (T.length : Int) := by omega
      have HO := hide (open_any HK.out.dk)
      have HKv : Hid (∀ k, v.ownBlock = some k → k < wr.heap.size) := hide fun k hk => (own_lo HK.out.own hk).2
      have hw0 := HK.out.bel.size
      go_wp2_with fail
      refine HO.out.mono ?_
      intro e w5 hP
      obtain ⟨hB5, Wa, ada, cpa, rfl, -, -, hOa, -⟩ := HK.out.con.opens hP
      have HK5 := hide (HK.out.below hB5)
      have HOa := hide hOa
      have h5s := hB5.size
      have HO5 := hide (open_any HK5.out.dk)
      clear hP hOa hB5 HO
      go_wp2_with fail
      refine HO5.out.mono ?_
      intro e w6 hP
      obtain ⟨hB6, Wb, adb, cpb, rfl, -, -, hOb, -⟩ := HK5.out.con.opens hP
      have HK6 := hide (HK5.out.below hB6)
      have HOa6 := hide (D.own_keep HOa.out fun k hk => hB6.block k (own_lo HOa.out hk).2)
      have HGa : Hid (∀ k, (Value.slice ada l.length cpa).ownBlock = some k → wr.heap.size ≤ k ∧ k < w5.heap.size) := hide fun k hk => own_lo HOa.out hk
      have HOb := hide hOb
      have h6s := hB6.size
      obtain ⟨adv, cpv, rfl⟩ := D.own_slice HK6.out.own
      obtain ⟨-, ra, hRa⟩ := D.Rs.own HOa6.out
      obtain ⟨-, rv, hRv⟩ := D.Rs.own HK6.out.own
      have hsm := HK6.out.small
      have HSm := hide (D.same_true (cap := cpa) (cap' := cpv) hRa hRv (by omega))
      clear hP hOb hB6 HO5 HK5 HOa hRa hRv HK
      go_wp2_with fail
      refine HSm.out.mono ?_
      rintro e w7 ⟨rfl, nd, rfl⟩
      have HK7 := hide (HK6.out.below (D.below_drewN w6 nd))
      have HOa7 : Hid ((w6.drewN nd).ownsRow wr.heap.size 9 1 (.slice ada l.length cpa) l.length (l.map .string)) := HOa6
      have HOb7 : Hid ((w6.drewN nd).ownsRow w5.heap.size 9 1 (.slice adb l.length cpb) l.length (l.map .string)) := HOb
      have h67 : w5.heap.size ≤ (w6.drewN nd).heap.size := h6s
      generalize w6.drewN nd = w7 at *
      clear HSm HK6 HOa6 HOb
      have H67 : Hid (w5.heap.size ≤ w7.heap.size) := hide h67
      generalize hN0 : wr.heap.size = N0 at *
      clear hN0 h67
      go_wp2_with fail
      go_loopw [19] (fun s wr2 => ∃ (k : Nat) (xs : List Value), k ≤ l.length ∧ s = .int .i64 (k : Int) ∧ Hid (wr2.ownsRow N0 9 1 (.slice ada l.length cpa) l.length xs) ∧ Hid (wr2.ownsRow w5.heap.size 9 1 (.slice adb l.length cpb) l.length (l.map .string)) ∧ Hid (KpI w b W (.slice adv l.length cpv) l d ws F wr2) ∧ Hid (w5.heap.size ≤ wr2.heap.size)) (fun s _ => l.length - (intOf s).toNat)
      case atStart => exact ⟨0, _, Nat.zero_le _, rfl, HOa7, HOb7, HK7, H67⟩
      case round =>
        obtain ⟨k, xs, hk, rfl, HA2, HB2, HK2, H5⟩ := hrel
        clear HOa7 HOb7 HK7
        by_cases hkl : k < l.length
        · have hki : (k : Int) < (l.length : Int) := by omega
          obtain ⟨ga, hga⟩ : ∃ ga, ada = some ⟨ga, 0, none⟩ := by
            rcases D.own_form HA2.out with ⟨h9, h8⟩ | ⟨g, cap', h9, _⟩
            · omega
            · injection h9 with h9; exact ⟨g, h9⟩
          subst hga
          obtain ⟨cs, hcs⟩ := own_blk HA2.out (k := ga) rfl
          have hgl := HGa.out ga rfl
          obtain ⟨ys, hys⟩ := own_put HA2.out (g := ga) rfl k (.string ⟨#[111, 118, 101, 114]⟩)
          have hx0 : ∃ u, wr.cell? ⟨ga, k, none⟩ = some u := by
            have hlx := HA2.out.1
            have := HA2.out.cells (g := ga) rfl k (xs[k]'(by rw [hlx]; omega)) (List.getElem?_eq_getElem _)
            rw [Addr.add_lit, Nat.zero_add] at this
            exact ⟨_, this⟩
          obtain ⟨u0, x0⟩ := hx0
          have z0 : wr.frozen? ⟨ga, k, none⟩ = false := by unfold World.frozen?; rw [show wr.heap[(⟨ga, k, none⟩ : Addr).block]? = _ from hcs]; simp
          have HY := hide hys
          have hgw := lt_of_block hcs
          have HB3 : Hid ((wr.setCell ⟨ga, k, none⟩ (.string ⟨#[111, 118, 101, 114]⟩)).ownsRow w5.heap.size 9 1 (.slice adb l.length cpb) l.length (l.map .string)) := hide (D.own_keep HB2.out fun j hj => Below.heap_setCell _ _ _ _ (show j ≠ ga by have := (own_lo HB2.out hj).1; omega))
          have HK3 : Hid (KpI w b W (.slice adv l.length cpv) l d ws F (wr.setCell ⟨ga, k, none⟩ (.string ⟨#[111, 118, 101, 114]⟩))) := hide (HK2.out.but (A := .slice (some ⟨ga, 0, none⟩) l.length cpa) (fun g hg => by
            injection hg with hg
            have hg : ga = g := hg
            subst hg
            exact ⟨⟨cs, hcs⟩, fun e => by have := HKv.out ga e; omega⟩) (fun j _ hj => Below.heap_setCell _ _ _ _ (fun e => hj (by rw [e]; rfl))) (HK2.out.bel.setCell (show w.heap.size ≤ ga by omega) _))
          clear HA2 HB2 HK2 hys hcs
          go_wp2_with fail
          go_roundw
          case rel => exact ⟨k + 1, ys, by omega, rfl, HY, HB3, HK3, hide (by rw [D.setCell_size]; exact H5.out)⟩
          case measure => simp only [intOf]; omega
        · have hki : ¬ (k : Int) < (l.length : Int) := by omega
          have hbs := HK2.out.bel.size
          have HAt : Hid (∀ g, (Value.slice ada l.length cpa).ownBlock = some g → (∃ cs, wr.heap[g]? = some (.cells cs 9 (0, 0))) ∧ (Value.slice adv l.length cpv).ownBlock ≠ some g) := hide fun g hg => ⟨own_blk HA2.out hg, fun e => by have h1 := HKv.out g e; have h2 := HGa.out g hg; omega⟩
          have hwr : N0 ≤ wr.heap.size := by have := H5.out; omega
          go_wp2_with (at_builtin; refine wpList_append_own _ rfl _ _ 22 rfl N0 9 iS (.string ByteArray.empty) 1 16 Try.underlying22 hiS zS0 zS1 zS2 rfl (by decide) (.slice ada l.length cpa) l.length _ rfl (HA2.out.alloc _) ⟨wr.heap.size, 0, none⟩ 1 1 [.string ⟨#[109, 111, 114, 101]⟩] rfl rfl (one_new _ _ _) (by intro u hu; simp at hu; subst hu; rfl) (by unfold maxLen; omega) (by omega) (by rw [World.size_alloc]; omega) ?_; intro va wa howna hgrowa hnila; obtain ⟨ad9, cp9, rfl⟩ := D.own_slice howna)
          have HKa : Hid (KpI w b W (.slice adv l.length cpv) l d ws F wa) := hide (HK2.out.but HAt.out (fun j hj hn => (hgrowa.block j (by rw [World.size_alloc]; omega) (Ne.symm hn)).trans (Below.heap_alloc _ _ _ hj)) ((HK2.out.bel.alloc hbs _).grown hgrowa (by rw [World.size_alloc]; omega) (fun j hj => by have := (HGa.out j hj).1; omega)))
          have HBa : Hid (wa.ownsRow w5.heap.size 9 1 (.slice adb l.length cpb) l.length (l.map .string)) := hide (D.own_keep HB2.out fun j hj => (hgrowa.block j (by rw [World.size_alloc]; have := (own_lo HB2.out hj).2; omega) (fun e => by have h1 := (own_lo HB2.out hj).1; have h2 := (HGa.out j e.symm).2; omega)).trans (Below.heap_alloc _ _ _ (own_lo HB2.out hj).2))
          have HOc := hide (open_any HKa.out.dk)
          clear howna hgrowa hnila HA2 HB2 HK2 HAt
          refine HOc.out.mono ?_
          intro e w10 hP
          obtain ⟨hB10, Wc, adc, cpc, rfl, -, -, hOc, -⟩ := HKa.out.con.opens hP
          have HK10 := hide (HKa.out.below hB10)
          obtain ⟨-, rb, hRb⟩ := D.Rs.own (D.own_keep HBa.out fun j hj => hB10.block j (own_lo HBa.out hj).2)
          obtain ⟨-, rc, hRc⟩ := D.Rs.own hOc
          obtain ⟨-, rv, hRv⟩ := D.Rs.own HK10.out.own
          have HS1 := hide (D.same_true (cap := cpb) (cap' := cpv) hRb hRv (by omega))
          have HRc := hide hRc
          have HRv := hide hRv
          clear hP hB10 hOc hRb hRc hRv HOc HKa HBa
          go_wp2_with fail
          refine HS1.out.mono ?_
          rintro e w11 ⟨rfl, n1, rfl⟩
          have HS2 := hide (D.same_true (cap := cpc) (cap' := cpv) (HRc.out.below (D.below_drewN w10 n1)) (HRv.out.below (D.below_drewN w10 n1)) (by omega))
          have HK11 := hide (HK10.out.below (D.below_drewN w10 n1))
          generalize w10.drewN n1 = w11 at *
          clear HS1 HK10 HRc HRv
          go_wp2_with fail
          refine HS2.out.mono ?_
          rintro e w12 ⟨rfl, n2, rfl⟩
          have HK12 := hide (HK11.out.below (D.below_drewN w11 n2))
          generalize w11.drewN n2 = w12 at *
          have HRec := hide (records_any HK12.out.wm)
          rw [HK12.out.con.rc] at HRec
          clear HS2 HK11
          go_wp2_with fail
          refine HRec.out.mono ?_
          rintro e w13 ⟨rfl, rfl⟩
          have HB12 := hide HK12.out.bel
          clear HRec HK12
          go_wp2_with fail
          refine (fixed_any _).mono ?_
          rintro e w14 ⟨rfl, hB14⟩
          have HB14 := hide (HB12.out.trans (hB14.mono HB12.out.size))
          clear hB14
          go_wp2_with fail
          go_ret
          exact ⟨rfl, HB14.out⟩
end Go.Proofs.Yteiickpokabmoab
end
