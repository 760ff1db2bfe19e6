import Derived.Test.YtiijnlblaalchaaMgAS

section
namespace Go.Proofs.Ytiijnlblaalchaa
open Go.RowKit Go.Shelf
open Wl (Hd WS Log)

set_option maxHeartbeats 8000000 in
set_option maxRecDepth 8000 in
theorem walRooms_walk {w : World} {z : Int} (hz : -9223372036854775808 ≤ z ∧ z ≤ 9223372036854775807) {ad : Option Addr} {tb tf cap : Nat} {T : List ByteArray} (hT : D.Rs w ad tb tf T) (hTl : T.length ≤ 8796093021952) :
    Calls Try.prog 5 #[.int .i64 z, .slice ad T.length cap] w fun e w' => e = .returned (.bool true) ∧ Below w.heap.size w w' := by
  by_cases hz1 : z < 1
  · clear hT
    go_enter Try.func5, Try.ntmps5
    go_wp2_with fail
    refine (fixed_any _).mono ?_
    rintro e w1 ⟨rfl, hB1⟩
    go_wp2_with fail
    go_ret
    exact ⟨rfl, hB1⟩
  by_cases hz2 : 512 < z
  · clear hT
    go_enter Try.func5, Try.ntmps5
    go_wp2_with fail
    refine (fixed_any _).mono ?_
    rintro e w1 ⟨rfl, hB1⟩
    go_wp2_with fail
    go_ret
    exact ⟨rfl, hB1⟩
  obtain ⟨half, rfl⟩ : ∃ half : Nat, z = (half : Int) := ⟨z.toNat, by omega⟩
  have HL := hide (laid_any half (by omega) (by omega) w)
  have HT := hide hT
  clear hT hz
  go_enter Try.func5, Try.ntmps5
  go_wp2_with fail
  refine HL.out.mono ?_
  rintro e w1 ⟨b, W, d1, F1, rfl, hT1, hS1⟩
  have HK0 := hide hT1
  have HS0 := hide hS1
  clear hT1 HL hS1
  go_wp2_with fail
  go_loopw [7] (fun s wr => ∃ (i : Nat) (l : List ByteArray) (d : D.DS) (ws : WS) (F : Nat → Prop), i ≤ T.length ∧ s = .int .i64 (i : Int) ∧ Hid (TwI w b W l d ws F wr) ∧ Hid (d.S.length = 2 + 2 * half)) (fun s _ => T.length - (intOf s).toNat)
  case atStart => exact ⟨0, [], d1, _, F1, Nat.zero_le _, rfl, HK0, HS0⟩
  case round =>
    obtain ⟨i, l, d, ws, F, hi, rfl, HK, HSl⟩ := hrel
    clear HK0 HS0
    by_cases hil : i < T.length
    · have hii : (i : Int) < (T.length : Int) := by omega
      have hat := HT.out.at_ (by omega)
      subst hat
      have hTb : tb < w.heap.size := HT.out.lt (by omega)
      have HX1 : Hid (∀ V, Below w.heap.size w V → V.cell? ⟨tb, tf + i, none⟩ = some (.string T[i])) := hide fun V hV => (hV.cell (p := ⟨tb, tf + i, none⟩) hTb).trans (HT.out.cell i hil)
      have hRb : Hid ((d.R.length + 600) * 24 ≤ 140737488355328) := hide (Nat.le_trans (Nat.mul_le_mul_right 24 (by omega)) HK.out.R)
      obtain ⟨l', hC', hnm', hrl'⟩ := HK.out.next T[i]
      have HNx := hide (And.intro hC' (And.intro hnm' hrl'))
      clear hC' hnm' hrl'
      generalize T[i] = r at *
      have hnum : ws.h.num < 1099511627776 := by have := HK.out.nm; have := HK.out.small; omega
      have hhb : Wl.hb d.S.length = 128 * half := by rw [HSl.out]; unfold Wl.hb Wl.hs; omega
      have HRm : Hid (∀ V F', TwI w b W l d ws F' V → Calls Try.prog 18 #[.pointer (some ⟨W, 0, none⟩)] V fun e w' => e = .returned (.int .i64 (Wl.room d.S.length ws.h : Int)) ∧ Below V.heap.size V w') := hide fun V F' h => room_any h.dk h.wm h.con.wok
      have hrle := room_le d.S.length ws.h
      have HAl : Hid (∀ V F' x, (x : ByteArray).size < 1 ∨ 2048 < x.size → TwI w b W l d ws F' V → Calls Try.prog 14 #[.pointer (some ⟨W, 0, none⟩), .string x] V fun e w' => e = .returned (.int .i64 92) ∧ Wm w' W b ws ∧ ∃ F'', D.Dk w.heap.size w' b F'' d ∧ D.Mv (FW F' W) (FW F'' W) V w' ∧ ¬ F'' W) := hide fun V F' x hx h => by
        have := append_any h.dk h.wm h.nf h.con.wok hRb.out x
        rw [app_long h.con hx] at this; exact this
      have HAr : Hid (∀ V F' x, 1 ≤ (x : ByteArray).size → x.size ≤ 2048 → Wl.room d.S.length ws.h < x.size → TwI w b W l d ws F' V → Calls Try.prog 14 #[.pointer (some ⟨W, 0, none⟩), .string x] V fun e w' => e = .returned (.int .i64 93) ∧ Wm w' W b ws ∧ ∃ F'', D.Dk w.heap.size w' b F'' d ∧ D.Mv (FW F' W) (FW F'' W) V w' ∧ ¬ F'' W) := hide fun V F' x h1 h2 h3 h => by
        have := append_any h.dk h.wm h.nf h.con.wok hRb.out x
        rw [app_room h.con h1 h2 h3] at this; exact this
      have HSn : Hid (∀ V F' x, (x : ByteArray).size ≤ 200000 → min 17000 (128 * half) < x.size → TwI w b W l d ws F' V → Calls Try.prog 13 #[.pointer (some ⟨W, 0, none⟩), .string x] V fun e w' => e = .returned (.int .i64 92) ∧ Wm w' W b ws ∧ ∃ F'', D.Dk w.heap.size w' b F'' d ∧ D.Mv (FW F' W) (FW F'' W) V w' ∧ ¬ F'' W) := hide fun V F' x h1 h2 h => by
        have := snapshot_any h.dk h.wm h.nf h.con.wok hRb.out x (by omega)
        rw [snap_long h.con (by rw [hhb]; exact h2)] at this; exact this
      clear hhb
      have HOk : Hid (1 ≤ Wl.room d.S.length ws.h → (Wl.append d ws (zb (Wl.room d.S.length ws.h))).1 = 0) := hide fun h1 => (HK.out.con.append (by rw [zb_size]; exact h1) (by rw [zb_size]; exact hrle) (by rw [zb_size]; exact Nat.le_refl _) hnum).1
      have HSc := hide (D.sectors_any HK.out.dk)
      generalize Wl.room d.S.length ws.h = n at *
      go_wp2_with fail
      refine HSc.out.mono ?_
      rintro e w2 ⟨v2, rfl, hO2, hB2⟩
      obtain ⟨ad2, cp2, rfl⟩ := D.own_slice hO2
      have HK2 := hide (HK.out.below hB2)
      have HO2 := hide hO2
      clear hO2 hB2 HSc HK
      go_wp2_with fail
      refine (HRm.out _ _ HK2.out).mono ?_
      rintro e w3 ⟨rfl, hB3⟩
      have HK3 := hide (HK2.out.below hB3)
      have HO3 := hide (D.own_keep HO2.out fun k hk => hB3.block k (own_lo HO2.out hk).2)
      clear hB3 HK2 HO2
      have n0 : decide ((n : Int) < 0) = false := decide_eq_false (by omega)
      have n1 : decide ((2048 : Int) < (n : Int)) = false := decide_eq_false (by omega)
      go_wp2_with fail
      refine (HAl.out _ _ ⟨#[]⟩ (.inl (by decide)) HK3.out).mono ?_
      rintro e w4 ⟨rfl, hW4, F4, hD4, hM4, hn4⟩
      have HK4 := hide (HK3.out.still hD4 hW4 hM4 hn4)
      have HO4 := hide (own_mv HO3.out HK3.out hM4)
      clear hW4 hD4 hM4 hn4 HK3 HO3
      have mk4 := zmake 2049 (by decide) w4
      rw [show ((2049 : Nat) : Int) = (2049 : Int) from rfl] at mk4
      have cv4 := zconv 2049 w4
      obtain ⟨Z, hZ⟩ : ∃ Z, Z = zb 2049 := ⟨_, rfl⟩
      rw [← hZ] at cv4
      have HZ : Hid (2048 < Z.size) := hide (by rw [hZ, zb_size]; decide)
      clear hZ
      have HB4 := hide (below_alloc w4 (.cells (bc (List.replicate 2049 0)).toArray 5))
      generalize (w4.alloc (.cells (bc (List.replicate 2049 0)).toArray 5)) = w4a at *
      go_wp2_with fail
      refine (HAl.out _ _ Z (.inr HZ.out) (HK4.out.below HB4.out)).mono ?_
      rintro e w5 ⟨rfl, hW5, F5, hD5, hM5, hn5⟩
      have HK5 := hide ((HK4.out.below HB4.out).still hD5 hW5 hM5 hn5)
      have HO5 := hide (own_mv (D.own_keep HO4.out fun k hk => HB4.out.block k (own_lo HO4.out hk).2) (HK4.out.below HB4.out) hM5)
      clear hW5 hD5 hM5 hn5 HK4 HO4 mk4 cv4 HB4
      obtain ⟨MN, hMN⟩ : ∃ MN, min 17000 (128 * half) = MN := ⟨_, rfl⟩
      have hmn : min (128 * (half : Int)) 17000 = (MN : Int) := by omega
      have hMl : MN ≤ 17000 := by omega
      have HMi := hide hmn
      obtain ⟨M1, hM1⟩ : ∃ M1, MN + 1 = M1 := ⟨_, rfl⟩
      have HM1 : Hid ((MN : Int) + 1 = (M1 : Int)) := hide (by omega)
      have HMN : Hid (min 17000 (128 * half) < M1) := hide (by omega)
      have hM1l : M1 ≤ 17001 := by omega
      clear hMN hmn hM1
      by_cases hn : n < 2048
      · have hni : (n : Int) < 2048 := by omega
        obtain ⟨m, hm⟩ : ∃ m, n + 1 = m := ⟨_, rfl⟩
        have HMM : Hid (n < m ∧ 1 ≤ m ∧ m ≤ 2048) := hide (by omega)
        have hmi : (n : Int) + 1 = (m : Int) := by omega
        have mk6 := zmake m (by omega) w5
        clear hm
        have cv6 := zconv m w5
        have HB6 := hide (below_alloc w5 (.cells (bc (List.replicate m 0)).toArray 5))
        generalize (w5.alloc (.cells (bc (List.replicate m 0)).toArray 5)) = w5a at *
        have dn : decide ((n : Int) < 2048) = true := decide_eq_true hni
        clear hni
        go_wp2_with fail
        clear hmi
        refine (HAr.out _ _ (zb m) (by rw [zb_size]; exact HMM.out.2.1) (by rw [zb_size]; exact HMM.out.2.2) (by rw [zb_size]; exact HMM.out.1) (HK5.out.below HB6.out)).mono ?_
        rintro e w6 ⟨rfl, hW6, F6, hD6, hM6, hn6⟩
        have HK6 := hide ((HK5.out.below HB6.out).still hD6 hW6 hM6 hn6)
        have HO6 := hide (own_mv (D.own_keep HO5.out fun k hk => HB6.out.block k (own_lo HO5.out hk).2) (HK5.out.below HB6.out) hM6)
        clear hW6 hD6 hM6 hn6 HK5 HO5 mk6 cv6 HB6
        have mkS := zmake M1 (by omega) w6
        have cvS := zconv M1 w6
        have HBS := hide (below_alloc w6 (.cells (bc (List.replicate M1 0)).toArray 5))
        generalize (w6.alloc (.cells (bc (List.replicate M1 0)).toArray 5)) = ws6 at *
        have hmn := HMi.out
        have hm1 := HM1.out
        go_wp2_with fail
        clear hmn hm1
        refine (HSn.out _ _ (zb M1) (by rw [zb_size]; omega) (by rw [zb_size]; exact HMN.out) (HK6.out.below HBS.out)).mono ?_
        rintro e w7 ⟨rfl, hW7, F7, hD7, hM7, hn7⟩
        have HK7 := hide ((HK6.out.below HBS.out).still hD7 hW7 hM7 hn7)
        have HO7 := hide (own_mv (D.own_keep HO6.out fun k hk => HBS.out.block k (own_lo HO6.out hk).2) (HK6.out.below HBS.out) hM7)
        have HSc7 := hide (D.sectors_any HK7.out.dk)
        clear hW7 hD7 hM7 hn7 HK6 HO6 mkS cvS HBS
        go_wp2_with fail
        refine HSc7.out.mono ?_
        rintro e w8 ⟨v8, rfl, hO8, hB8⟩
        obtain ⟨ad8, cp8, rfl⟩ := D.own_slice hO8
        have HK8 := hide (HK7.out.below hB8)
        have hSl8 : d.S.length ≤ 1026 := HK8.out.con.ok.s1
        obtain ⟨-, r8, hR8⟩ := D.Rs.own hO8
        obtain ⟨-, r2, hR2⟩ := D.Rs.own (D.own_keep HO7.out fun k hk => hB8.block k (own_lo HO7.out hk).2)
        have HS8 := hide (D.same_true (cap := cp8) (cap' := cp2) hR8 hR2 (by omega))
        clear hO8 hB8 hR8 hR2 HSc7 HK7 HO7
        go_wp2_with fail
        refine HS8.out.mono ?_
        rintro e w9 ⟨rfl, n9, rfl⟩
        have HK9 := hide (HK8.out.below (D.below_drewN w8 n9))
        generalize w8.drewN n9 = w9 at *
        clear HS8 HK8
        go_wp2_with fail
        refine (HRm.out _ _ HK9.out).mono ?_
        rintro e w10 ⟨rfl, hB10⟩
        have HK10 := hide (HK9.out.below hB10)
        have HDd := hide (dead_any9 HK10.out.wm)
        rw [HK10.out.con.gone] at HDd
        have bnn : ((n : Int) != (n : Int)) = false := by simp
        clear hB10 HK9
        go_wp2_with fail
        refine HDd.out.mono ?_
        rintro e w11 ⟨rfl, rfl⟩
        have HCl := hide (D.clone_any HK10.out.dk (Nat.le_trans (Nat.mul_le_mul_right 24 (by omega)) hRb.out))
        have HF10 := hide (fun k hk => (HK10.out.dk.ftlt k hk).2)
        have hW10 := lt_of_block HK10.out.wm
        have hw10 := HK10.out.bel.size
        clear HDd
        go_wp2_with fail
        refine HCl.out.mono ?_
        rintro e w12 ⟨c, Fc, rfl, hDc, hB12⟩
        have HK12 := hide (HK10.out.below hB12)
        have h12s := hB12.size
        have HFc := hide (fun k hk => hDc.ftlt k hk)
        have HDc := hide hDc
        have HWc := hide (wclone_any (b2 := c) HK12.out.wm)
        clear hDc hB12 HCl HK10
        go_wp2_with fail
        refine HWc.out.mono ?_
        rintro e w13 ⟨rfl, hX13, hB13⟩
        obtain ⟨X, hXX⟩ : ∃ X, w12.heap.size = X := ⟨_, rfl⟩
        rw [hXX] at hX13 ⊢
        have HK13 := hide (HK12.out.below hB13)
        have HDc13 := hide (HDc.out.below hB13)
        have hFcX : ¬ Fc X := fun k => absurd (HFc.out X k).2 (by omega)
        have HX13 := hide hX13
        clear hX13 hB13 HWc HDc HK12
        by_cases hn0 : 0 < n
        · have hn0i : decide (0 < (n : Int)) = true := decide_eq_true (by omega)
          have mk9 := zmake n (by omega) w13
          have cv9 := zconv n w13
          have HB9 := hide (below_alloc w13 (.cells (bc (List.replicate n 0)).toArray 5))
          generalize (w13.alloc (.cells (bc (List.replicate n 0)).toArray 5)) = w13a at *
          have HAx := hide (append_any (HDc13.out.below HB9.out) (HX13.out.below HB9.out) hFcX HK13.out.con.wok hRb.out (zb n))
          rw [HOk.out hn0] at HAx
          go_wp2_with fail
          refine HAx.out.mono ?_
          rintro e w14 ⟨rfl, hX14, F14, hD14, hM14, hn14⟩
          have hno : ∀ k, k < w11.heap.size → ¬ FW Fc X k := fun k hk e => by
            rcases e with e | e
            · have := (HFc.out k e).1; omega
            · omega
          have HKz : Hid (TwI w b W l d ws F7 w14) := hide ⟨HK13.out.con, HK13.out.nm, HK13.out.rl, ((HK13.out.below HB9.out).dk.mv hM14 fun k hk => hno k (HF10.out k hk)), (hM14.block W (lt_of_block (HK13.out.below HB9.out).wm) (hno W hW10)).trans (HK13.out.below HB9.out).wm, HK13.out.nf, HK13.out.hW, (HK13.out.below HB9.out).bel.trans (hM14.below (HK13.out.below HB9.out).bel.size fun k e => by
            have h5 := HK13.out.bel.size
            rcases e with e | e
            · have h6 := (HFc.out k e).1; have h7 := hw10; omega
            · have h7 := hw10; omega)⟩
          clear hX14 hD14 hM14 hn14 HAx mk9 cv9 HB9 HK13 HDc13 HX13
          go_wp2_with fail
          refine (HRm.out _ _ HKz.out).mono ?_
          rintro e wq ⟨rfl, hBq⟩
          have HKq := hide (HKz.out.below hBq)
          clear hBq HKz
          have xq := HX1.out wq HKq.out.bel
          have hTq : tb < wq.heap.size := Nat.lt_of_lt_of_le hTb HKq.out.bel.size
          have HAq := hide (append_any HKq.out.dk HKq.out.wm HKq.out.nf HKq.out.con.wok hRb.out r)
          have bqq : ((n : Int) != (n : Int)) = false := by simp
          go_wp2_with fail
          refine HAq.out.mono ?_
          rintro e wu ⟨rfl, hWu, Fu, hDu, hMu, hnu⟩
          have HLu : Hid ((Wl.append d ws r).2.1.S.length = 2 + 2 * half) := hide (by
            rcases HKq.out.con.append_or hnum r with ⟨_, _, _, _, h5⟩ | ⟨_, h5, _⟩
            · rw [h5]; exact HSl.out
            · rw [h5]; exact HSl.out)
          have HKu : Hid (TwI w b W l' (Wl.append d ws r).2.1 (Wl.append d ws r).2.2 Fu wu) := hide ⟨HNx.out.1, HNx.out.2.1, HNx.out.2.2, hDu, hWu, hnu, HKq.out.hW, HKq.out.bel.trans (hMu.below HKq.out.bel.size fun k e => by rcases e with e | e; exact HKq.out.dk.ftlow k e; rw [e]; exact HKq.out.hW)⟩
          clear hWu hDu hMu HAq HKq xq HNx
          go_wp2_with fail
          go_roundw
          case rel => exact ⟨i + 1, l', _, _, Fu, by omega, rfl, HKu, HLu⟩
          case measure => simp only [intOf]; omega
        · have hn0i : decide (0 < (n : Int)) = false := decide_eq_false (by omega)
          have HKz := HK13
          clear HK13 HDc13 HX13
          go_wp2_with fail
          refine (HRm.out _ _ HKz.out).mono ?_
          rintro e wq ⟨rfl, hBq⟩
          have HKq := hide (HKz.out.below hBq)
          clear hBq HKz
          have xq := HX1.out wq HKq.out.bel
          have hTq : tb < wq.heap.size := Nat.lt_of_lt_of_le hTb HKq.out.bel.size
          have HAq := hide (append_any HKq.out.dk HKq.out.wm HKq.out.nf HKq.out.con.wok hRb.out r)
          have bqq : ((n : Int) != (n : Int)) = false := by simp
          go_wp2_with fail
          refine HAq.out.mono ?_
          rintro e wu ⟨rfl, hWu, Fu, hDu, hMu, hnu⟩
          have HLu : Hid ((Wl.append d ws r).2.1.S.length = 2 + 2 * half) := hide (by
            rcases HKq.out.con.append_or hnum r with ⟨_, _, _, _, h5⟩ | ⟨_, h5, _⟩
            · rw [h5]; exact HSl.out
            · rw [h5]; exact HSl.out)
          have HKu : Hid (TwI w b W l' (Wl.append d ws r).2.1 (Wl.append d ws r).2.2 Fu wu) := hide ⟨HNx.out.1, HNx.out.2.1, HNx.out.2.2, hDu, hWu, hnu, HKq.out.hW, HKq.out.bel.trans (hMu.below HKq.out.bel.size fun k e => by rcases e with e | e; exact HKq.out.dk.ftlow k e; rw [e]; exact HKq.out.hW)⟩
          clear hWu hDu hMu HAq HKq xq HNx
          go_wp2_with fail
          go_roundw
          case rel => exact ⟨i + 1, l', _, _, Fu, by omega, rfl, HKu, HLu⟩
          case measure => simp only [intOf]; omega
      · have dn : decide ((n : Int) < 2048) = false := decide_eq_false (by omega)
        have mkS := zmake M1 (by omega) w5
        have cvS := zconv M1 w5
        have HBS := hide (below_alloc w5 (.cells (bc (List.replicate M1 0)).toArray 5))
        generalize (w5.alloc (.cells (bc (List.replicate M1 0)).toArray 5)) = ws6 at *
        have hmn := HMi.out
        have hm1 := HM1.out
        go_wp2_with fail
        clear hmn hm1
        refine (HSn.out _ _ (zb M1) (by rw [zb_size]; omega) (by rw [zb_size]; exact HMN.out) (HK5.out.below HBS.out)).mono ?_
        rintro e w7 ⟨rfl, hW7, F7, hD7, hM7, hn7⟩
        have HK7 := hide ((HK5.out.below HBS.out).still hD7 hW7 hM7 hn7)
        have HO7 := hide (own_mv (D.own_keep HO5.out fun k hk => HBS.out.block k (own_lo HO5.out hk).2) (HK5.out.below HBS.out) hM7)
        have HSc7 := hide (D.sectors_any HK7.out.dk)
        clear hW7 hD7 hM7 hn7 HK5 HO5 mkS cvS HBS
        go_wp2_with fail
        refine HSc7.out.mono ?_
        rintro e w8 ⟨v8, rfl, hO8, hB8⟩
        obtain ⟨ad8, cp8, rfl⟩ := D.own_slice hO8
        have HK8 := hide (HK7.out.below hB8)
        have hSl8 : d.S.length ≤ 1026 := HK8.out.con.ok.s1
        obtain ⟨-, r8, hR8⟩ := D.Rs.own hO8
        obtain ⟨-, r2, hR2⟩ := D.Rs.own (D.own_keep HO7.out fun k hk => hB8.block k (own_lo HO7.out hk).2)
        have HS8 := hide (D.same_true (cap := cp8) (cap' := cp2) hR8 hR2 (by omega))
        clear hO8 hB8 hR8 hR2 HSc7 HK7 HO7
        go_wp2_with fail
        refine HS8.out.mono ?_
        rintro e w9 ⟨rfl, n9, rfl⟩
        have HK9 := hide (HK8.out.below (D.below_drewN w8 n9))
        generalize w8.drewN n9 = w9 at *
        clear HS8 HK8
        go_wp2_with fail
        refine (HRm.out _ _ HK9.out).mono ?_
        rintro e w10 ⟨rfl, hB10⟩
        have HK10 := hide (HK9.out.below hB10)
        have HDd := hide (dead_any9 HK10.out.wm)
        rw [HK10.out.con.gone] at HDd
        have bnn : ((n : Int) != (n : Int)) = false := by simp
        clear hB10 HK9
        go_wp2_with fail
        refine HDd.out.mono ?_
        rintro e w11 ⟨rfl, rfl⟩
        have HCl := hide (D.clone_any HK10.out.dk (Nat.le_trans (Nat.mul_le_mul_right 24 (by omega)) hRb.out))
        have HF10 := hide (fun k hk => (HK10.out.dk.ftlt k hk).2)
        have hW10 := lt_of_block HK10.out.wm
        have hw10 := HK10.out.bel.size
        clear HDd
        go_wp2_with fail
        refine HCl.out.mono ?_
        rintro e w12 ⟨c, Fc, rfl, hDc, hB12⟩
        have HK12 := hide (HK10.out.below hB12)
        have h12s := hB12.size
        have HFc := hide (fun k hk => hDc.ftlt k hk)
        have HDc := hide hDc
        have HWc := hide (wclone_any (b2 := c) HK12.out.wm)
        clear hDc hB12 HCl HK10
        go_wp2_with fail
        refine HWc.out.mono ?_
        rintro e w13 ⟨rfl, hX13, hB13⟩
        obtain ⟨X, hXX⟩ : ∃ X, w12.heap.size = X := ⟨_, rfl⟩
        rw [hXX] at hX13 ⊢
        have HK13 := hide (HK12.out.below hB13)
        have HDc13 := hide (HDc.out.below hB13)
        have hFcX : ¬ Fc X := fun k => absurd (HFc.out X k).2 (by omega)
        have HX13 := hide hX13
        clear hX13 hB13 HWc HDc HK12
        by_cases hn0 : 0 < n
        · have hn0i : decide (0 < (n : Int)) = true := decide_eq_true (by omega)
          have mk9 := zmake n (by omega) w13
          have cv9 := zconv n w13
          have HB9 := hide (below_alloc w13 (.cells (bc (List.replicate n 0)).toArray 5))
          generalize (w13.alloc (.cells (bc (List.replicate n 0)).toArray 5)) = w13a at *
          have HAx := hide (append_any (HDc13.out.below HB9.out) (HX13.out.below HB9.out) hFcX HK13.out.con.wok hRb.out (zb n))
          rw [HOk.out hn0] at HAx
          go_wp2_with fail
          refine HAx.out.mono ?_
          rintro e w14 ⟨rfl, hX14, F14, hD14, hM14, hn14⟩
          have hno : ∀ k, k < w11.heap.size → ¬ FW Fc X k := fun k hk e => by
            rcases e with e | e
            · have := (HFc.out k e).1; omega
            · omega
          have HKz : Hid (TwI w b W l d ws F7 w14) := hide ⟨HK13.out.con, HK13.out.nm, HK13.out.rl, ((HK13.out.below HB9.out).dk.mv hM14 fun k hk => hno k (HF10.out k hk)), (hM14.block W (lt_of_block (HK13.out.below HB9.out).wm) (hno W hW10)).trans (HK13.out.below HB9.out).wm, HK13.out.nf, HK13.out.hW, (HK13.out.below HB9.out).bel.trans (hM14.below (HK13.out.below HB9.out).bel.size fun k e => by
            have h5 := HK13.out.bel.size
            rcases e with e | e
            · have h6 := (HFc.out k e).1; have h7 := hw10; omega
            · have h7 := hw10; omega)⟩
          clear hX14 hD14 hM14 hn14 HAx mk9 cv9 HB9 HK13 HDc13 HX13
          go_wp2_with fail
          refine (HRm.out _ _ HKz.out).mono ?_
          rintro e wq ⟨rfl, hBq⟩
          have HKq := hide (HKz.out.below hBq)
          clear hBq HKz
          have xq := HX1.out wq HKq.out.bel
          have hTq : tb < wq.heap.size := Nat.lt_of_lt_of_le hTb HKq.out.bel.size
          have HAq := hide (append_any HKq.out.dk HKq.out.wm HKq.out.nf HKq.out.con.wok hRb.out r)
          have bqq : ((n : Int) != (n : Int)) = false := by simp
          go_wp2_with fail
          refine HAq.out.mono ?_
          rintro e wu ⟨rfl, hWu, Fu, hDu, hMu, hnu⟩
          have HLu : Hid ((Wl.append d ws r).2.1.S.length = 2 + 2 * half) := hide (by
            rcases HKq.out.con.append_or hnum r with ⟨_, _, _, _, h5⟩ | ⟨_, h5, _⟩
            · rw [h5]; exact HSl.out
            · rw [h5]; exact HSl.out)
          have HKu : Hid (TwI w b W l' (Wl.append d ws r).2.1 (Wl.append d ws r).2.2 Fu wu) := hide ⟨HNx.out.1, HNx.out.2.1, HNx.out.2.2, hDu, hWu, hnu, HKq.out.hW, HKq.out.bel.trans (hMu.below HKq.out.bel.size fun k e => by rcases e with e | e; exact HKq.out.dk.ftlow k e; rw [e]; exact HKq.out.hW)⟩
          clear hWu hDu hMu HAq HKq xq HNx
          go_wp2_with fail
          go_roundw
          case rel => exact ⟨i + 1, l', _, _, Fu, by omega, rfl, HKu, HLu⟩
          case measure => simp only [intOf]; omega
        · have hn0i : decide (0 < (n : Int)) = false := decide_eq_false (by omega)
          have HKz := HK13
          clear HK13 HDc13 HX13
          go_wp2_with fail
          refine (HRm.out _ _ HKz.out).mono ?_
          rintro e wq ⟨rfl, hBq⟩
          have HKq := hide (HKz.out.below hBq)
          clear hBq HKz
          have xq := HX1.out wq HKq.out.bel
          have hTq : tb < wq.heap.size := Nat.lt_of_lt_of_le hTb HKq.out.bel.size
          have HAq := hide (append_any HKq.out.dk HKq.out.wm HKq.out.nf HKq.out.con.wok hRb.out r)
          have bqq : ((n : Int) != (n : Int)) = false := by simp
          go_wp2_with fail
          refine HAq.out.mono ?_
          rintro e wu ⟨rfl, hWu, Fu, hDu, hMu, hnu⟩
          have HLu : Hid ((Wl.append d ws r).2.1.S.length = 2 + 2 * half) := hide (by
            rcases HKq.out.con.append_or hnum r with ⟨_, _, _, _, h5⟩ | ⟨_, h5, _⟩
            · rw [h5]; exact HSl.out
            · rw [h5]; exact HSl.out)
          have HKu : Hid (TwI w b W l' (Wl.append d ws r).2.1 (Wl.append d ws r).2.2 Fu wu) := hide ⟨HNx.out.1, HNx.out.2.1, HNx.out.2.2, hDu, hWu, hnu, HKq.out.hW, HKq.out.bel.trans (hMu.below HKq.out.bel.size fun k e => by rcases e with e | e; exact HKq.out.dk.ftlow k e; rw [e]; exact HKq.out.hW)⟩
          clear hWu hDu hMu HAq HKq xq HNx
          go_wp2_with fail
          go_roundw
          case rel => exact ⟨i + 1, l', _, _, Fu, by omega, rfl, HKu, HLu⟩
          case measure => simp only [intOf]; omega
    · have hii : ¬ (i : Int) < (T.length : Int) := by omega
      have HB := hide HK.out.bel
      clear HK
      go_wp2_with fail
      refine (fixed_any _).mono ?_
      rintro e w2 ⟨rfl, hB2⟩
      have HB2 := hide (HB.out.trans (hB2.mono HB.out.size))
      clear hB2
      go_wp2_with fail
      go_ret
      exact ⟨rfl, HB2.out⟩
end Go.Proofs.Ytiijnlblaalchaa
end
