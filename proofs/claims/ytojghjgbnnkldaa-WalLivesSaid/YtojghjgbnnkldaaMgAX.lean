import Derived.Test.YtojghjgbnnkldaaMgAW

section
namespace Go.Proofs.Ytojghjgbnnkldaa
open Go.RowKit Go.Shelf
open Wl (Hd WS Log)

theorem TlI.of0 {w0 : World} {b W : Nat} {d : D.DS} {F : Nat → Prop} {w : World} (h : TwI w0 b W [] d ⟨Wl.h1, 0, false⟩ F w) : TlI w0 b W (.slice none 0 0) ⟨#[]⟩ [] [] d ⟨Wl.h1, 0, false⟩ F 0 w :=
  ⟨h.con, by rw [h.nm]; decide, by have := h.rl; exact this, h.dk, h.wm, h.nf, h.hW, World.ownsRow_nil _ _ _ _, h.bel⟩
theorem ok_armed {d : D.DS} {ws : WS} (h : Wl.Ok d ws) (n : Nat) (B : Int) : Wl.Ok (armed d n B) ws := ⟨h.fits, h.num, h.half, h.sn, h.used, h.rc⟩
theorem life_cells {w : World} {X : Nat} {a b c d : Value} (h : w.heap[X]? = some (.cells #[a, b, c, d] 33 (0, 0))) : w.cell? ⟨X, 0, none⟩ = some a ∧ w.cell? ⟨X, 2, none⟩ = some c ∧ w.cell? ⟨X, 3, none⟩ = some d := by
  refine ⟨?_, ?_, ?_⟩ <;> simp [World.cell?, h]
theorem own_base {w : World} {B B' n : Nat} {e : TypeId} {v : Value} {xs : List Value} (h : w.ownsRow B' e 1 v n xs) (hB : B ≤ B') : w.ownsRow B e 1 v n xs := by
  refine ⟨h.1, ?_⟩
  rcases h.2 with h1 | ⟨g, cap, cur, h0, hb, h2⟩
  · exact .inl h1
  · exact .inr ⟨g, cap, cur, h0, Nat.le_trans hB hb, h2⟩
theorem TlI.norow {w0 : World} {b W : Nat} {v : Value} {s : ByteArray} {l lr : List ByteArray} {d : D.DS} {ws : WS} {F : Nat → Prop} {N : Nat} {w : World} (h : TlI w0 b W v s l lr d ws F N w) : TlI w0 b W (.slice none 0 0) s l [] d ws F N w := ⟨h.con, h.nm, h.rl, h.dk, h.wm, h.nf, h.hW, World.ownsRow_nil _ _ _ _, h.bel⟩
theorem Rs_prefix {w : World} {ad : Option Addr} {ab ao : Nat} {l m : List ByteArray} (h : D.Rs w ad ab ao (l ++ m)) : D.Rs w ad ab ao l :=
  ⟨fun h0 => h.at_ (by rw [List.length_append]; omega), fun i hi => by
    have := h.cell i (by rw [List.length_append]; omega)
    rw [List.getElem_append_left hi] at this
    exact this⟩
def abB : ByteArray := ⟨#[97, 98]⟩
set_option maxHeartbeats 8000000 in
set_option maxRecDepth 8000 in
theorem walMends_walk {w : World} {z : Int} (hz : -9223372036854775808 ≤ z ∧ z ≤ 9223372036854775807) {ad : Option Addr} {ab ao cap : Nat} {Q : List LifeV} (hQ : Rl w ad ab ao Q) (hQl : Q.length ≤ 1048576) :
    Calls Try.prog 6 #[.int .i64 z, .slice ad Q.length cap] w fun e w' => e = .returned (.bool true) ∧ Below w.heap.size w w' := by
  by_cases hz1 : z < 2
  · clear hQ
    go_enter Try.func6, Try.ntmps6
    go_wp2_with fail
    refine (fixed_any _).mono ?_
    rintro e w1 ⟨rfl, hB1⟩
    go_wp2_with fail
    go_ret
    exact ⟨rfl, hB1⟩
  by_cases hz2 : 512 < z
  · clear hQ
    go_enter Try.func6, Try.ntmps6
    go_wp2_with fail
    refine (fixed_any _).mono ?_
    rintro e w1 ⟨rfl, hB1⟩
    go_wp2_with fail
    go_ret
    exact ⟨rfl, hB1⟩
  obtain ⟨half, rfl⟩ : ∃ half : Nat, z = (half : Int) := ⟨z.toNat, by omega⟩
  have HHf : Hid (2 ≤ half) := hide (by omega)
  have HL := hide (laidX_any half (by omega) (by omega) w)
  have HQ := hide hQ
  clear hQ hz
  go_enter Try.func6, Try.ntmps6
  go_wp2_with fail
  refine HL.out.mono ?_
  rintro e w1 ⟨b, W, d1, F1, rfl, hT1, hS1, hX1⟩
  have HK0 := hide (TlI.of0 hT1)
  have HX0 := hide hX1
  have HS0 := hide hS1
  clear hT1 HL hX1 hS1
  go_wp2_with fail
  go_loopw [6, 7] (fun u t wr => ∃ (i W : Nat) (s : ByteArray) (l : List ByteArray) (d : D.DS) (ws : WS) (F : Nat → Prop), u = .pointer (some ⟨W, 0, none⟩) ∧ i ≤ Q.length ∧ t = .int .i64 (i : Int) ∧ Hid (TlI w b W (.slice none 0 0) s l [] d ws F (3 * i) wr) ∧ Hid (ConX d ws s l) ∧ Hid (d.S.length = 2 + 2 * half)) (fun _ t _ => Q.length - (intOf t).toNat)
  case atStart => exact ⟨0, W, _, [], d1, _, F1, rfl, Nat.zero_le _, rfl, HK0, HX0, HS0⟩
  case round =>
    obtain ⟨i, W, s, l, d, ws, F, rfl, hi, rfl, HK, HX, HSl⟩ := hrel
    clear HK0 HX0 HS0
    by_cases hil : i < Q.length
    · have hii : (i : Int) < (Q.length : Int) := by omega
      have hat := HQ.out.at_ (by omega)
      subst hat
      have hab : ab < w.heap.size := HQ.out.lt (by omega)
      have hbw := HK.out.bel
      have q0 := (hbw.cell (p := ⟨ab, ao + i * 4, none⟩) hab).trans (HQ.out.c0 i hil)
      have q1 := (hbw.cell (p := ⟨ab, ao + i * 4 + 1, none⟩) hab).trans (HQ.out.c1 i hil)
      have q2 := (hbw.cell (p := ⟨ab, ao + i * 4 + 2, none⟩) hab).trans (HQ.out.c2 i hil)
      have q3 := (hbw.cell (p := ⟨ab, ao + i * 4 + 3, none⟩) hab).trans (HQ.out.c3 i hil)
      have habr : ab < wr.heap.size := Nat.lt_of_lt_of_le hab hbw.size
      have HRs := hide (HQ.out.rs i hil)
      have HSz := hide (HQ.out.sz i hil)
      have hbn := HQ.out.bn i hil
      have hbb := HQ.out.bb i hil
      have HLn := hide (HQ.out.ln i hil).1
      clear hbw
      generalize Q[i] = q at *
      obtain ⟨aT, cT, tb, tf, T, aM, cM, mb, mf, M, xn, xb⟩ := q
      simp only at q0 q1 q2 q3 HRs HSz hbn hbb HLn
      obtain ⟨o, ho⟩ : ∃ o, Obj.cells #[.slice aT T.length cT, .slice aM M.length cM, .int .i64 xn, .int .i64 xb] 33 (0, 0) = o := ⟨_, rfl⟩
      have HO := hide ho
      have HLC : Hid (∀ V : World, V.heap[wr.heap.size]? = some o → V.cell? ⟨wr.heap.size, 0, none⟩ = some (.slice aT T.length cT) ∧ V.cell? ⟨wr.heap.size, 2, none⟩ = some (.int .i64 xn) ∧ V.cell? ⟨wr.heap.size, 3, none⟩ = some (.int .i64 xb)) := hide fun V hV => by
        rw [← ho] at hV; exact life_cells hV
      clear ho
      go_upto_region 10 with fail
      rw [HO.out]
      have HK2 := hide (HK.out.below (below_alloc wr o))
      have HB2 := hide (heap_alloc_new wr o)
      have HSZ := hide (World.size_alloc wr o)
      have HFl := hide (fun k hk => (HK.out.dk.ftlt k hk).2)
      have HWl := hide (lt_of_block HK.out.wm)
      generalize wr.alloc o = w2 at *
      obtain ⟨x0, x2, x3⟩ := HLC.out w2 HB2.out
      clear q0 q1 q2 q3 HK
      by_cases hT0 : T.length = 0
      · have dT : ((T.length : Int) == 0) = true := by simp; exact List.length_eq_zero_iff.mp hT0
        go_quiet (fail)
        go_wp2_with fail
        go_roundw
        case rel => exact ⟨i + 1, W, s, l, d, ws, F, rfl, by omega, by go_num, hide ((HK2.out.below (D.below_drewN w2 _)).more (by omega)), HX, HSl⟩
        case measure => simp only [intOf]; omega
      · have dT : ((T.length : Int) == 0) = false := by simp; exact fun e => hT0 (by rw [e]; rfl)
        have hpt : 0 < T.length := by omega
        have hta := HRs.out.at_ hpt
        subst hta
        have HTc := hide (HRs.out.cell 0 hpt)
        have hrs := HSz.out 0 hpt
        have htb : tb < w.heap.size := HRs.out.lt hpt
        generalize T[0] = r at *
        have hp : pl xn 3 < 3 := pl_lt (by decide)
        have hq : pl xb 129 < 129 := pl_lt (by decide)
        have HP1 : Hid (∀ V, Calls Try.prog 24 #[.int .i64 xn, .int .i64 3] V fun e w' => e = .returned (.int .i64 (pl xn 3 : Int)) ∧ w' = V) := hide fun V => place9_any (m := 3) (by decide) (by decide) hbn
        have HP2 : Hid (∀ V, Calls Try.prog 24 #[.int .i64 xb, .int .i64 129] V fun e w' => e = .returned (.int .i64 (pl xb 129 : Int)) ∧ w' = V) := hide fun V => place9_any (m := 129) (by decide) (by decide) hbb
        generalize pl xn 3 = p at *
        generalize pl xb 129 = pb at *
        have HArm : Hid (Calls Try.prog 23 #[.pointer (some ⟨b, 0, none⟩), .int .i64 (1 + (p : Int)), .int .i64 (pb : Int)] w2.drew fun e w' => e = .returned (.int .i64 0) ∧ D.Dk w.heap.size w' b F (armed d (1 + p) (pb : Int)) ∧ D.Mv F F w2.drew w') := hide (by
          have := D.arm_any (n := 1 + (p : Int)) (m := (pb : Int)) (HK2.out.below (D.below_drewN w2 1)).dk (by omega)
          rw [show (1 + (p : Int)) = ((1 + p : Nat) : Int) by omega, arm_eq HX.out.con.live (by omega) (by omega)] at this
          rw [show (1 + (p : Int)) = ((1 + p : Nat) : Int) by omega]
          exact this)
        clear hbn hbb
        have hwp : IntKind.i64.wrap (1 + (p : Int)) = 1 + (p : Int) := by
          rcases (show p = 0 ∨ p = 1 ∨ p = 2 by omega) with rfl | rfl | rfl <;> rfl
        clear x0 x2 x3
        refine wp_region_held_drew (S := fun w' => w'.heap[wr.heap.size]? = some o) (by kernel_rfl) (HB2.out) (fun hHeld => ?_)
        refine wpAnyH_take (i := 0) (v := .pointer (some ⟨wr.heap.size, 0, none⟩)) rfl (by kernel_rfl) (by kernel_rfl) (by kernel_rfl) (fun _ _ _ h => h) (Or.inl ⟨by kernel_rfl, fun w1 hSw => by clear hHeld; obtain ⟨x0, x2, x3⟩ := HLC.out _ hSw; go_simp⟩) hHeld ?_
        simp only [Act.put, List.setIfInBounds_toArray]
        refine wpAnyH_take (i := 1) (v := .slice (some ⟨tb, tf, none⟩) T.length cT) rfl (by kernel_rfl) (by kernel_rfl) (by kernel_rfl) (fun _ _ _ h => h) (Or.inl ⟨by kernel_rfl, fun w1 hSw => by clear hHeld; obtain ⟨x0, x2, x3⟩ := HLC.out _ hSw; go_simp⟩) hHeld ?_
        try simp only [Act.put]
        refine wpAnyH_take (i := 2) (v := .int .i64 (T.length : Int)) rfl (by kernel_rfl) (by kernel_rfl) (by kernel_rfl) (fun _ _ _ h => h) (Or.inl ⟨by kernel_rfl, fun w1 hSw => by clear hHeld; obtain ⟨x0, x2, x3⟩ := HLC.out _ hSw; go_simp⟩) hHeld ?_
        try simp only [Act.put]
        refine wpAnyH_take (i := 3) (v := .bool false) rfl (by kernel_rfl) (by kernel_rfl) (by kernel_rfl) (fun _ _ _ h => h) (Or.inl ⟨by kernel_rfl, fun w1 hSw => by clear hHeld; obtain ⟨x0, x2, x3⟩ := HLC.out _ hSw; go_simp⟩) hHeld ?_
        try simp only [Act.put]
        refine wpAnyH_take (i := 4) (v := .bool false) rfl (by kernel_rfl) (by kernel_rfl) (by kernel_rfl) (fun _ _ _ h => h) (Or.inl ⟨by kernel_rfl, fun w1 hSw => by clear hHeld; obtain ⟨x0, x2, x3⟩ := HLC.out _ hSw; go_simp⟩) hHeld ?_
        try simp only [Act.put]
        refine wpAnyH_take (i := 5) (v := .pointer (some ⟨b, 0, none⟩)) rfl (by kernel_rfl) (by kernel_rfl) (by kernel_rfl) (fun _ _ _ h => h) (Or.inl ⟨by kernel_rfl, fun w1 hSw => by clear hHeld; obtain ⟨x0, x2, x3⟩ := HLC.out _ hSw; go_simp⟩) hHeld ?_
        try simp only [Act.put]
        refine wpAnyH_take (i := 6) (v := .pointer (some ⟨wr.heap.size, 2, none⟩)) rfl (by kernel_rfl) (by kernel_rfl) (by kernel_rfl) (fun _ _ _ h => h) (Or.inl ⟨by kernel_rfl, fun w1 hSw => by clear hHeld; obtain ⟨x0, x2, x3⟩ := HLC.out _ hSw; go_simp⟩) hHeld ?_
        try simp only [Act.put]
        refine wpAnyH_take (i := 7) (v := .int .i64 xn) rfl (by kernel_rfl) (by kernel_rfl) (by kernel_rfl) (fun _ _ _ h => h) (Or.inl ⟨by kernel_rfl, fun w1 hSw => by clear hHeld; obtain ⟨x0, x2, x3⟩ := HLC.out _ hSw; go_simp⟩) hHeld ?_
        try simp only [Act.put]
        refine wpAnyH_take (i := 10) (v := .pointer (some ⟨wr.heap.size, 3, none⟩)) rfl (by kernel_rfl) (by kernel_rfl) (by kernel_rfl) (fun _ _ _ h => h) (Or.inl ⟨by kernel_rfl, fun w1 hSw => by clear hHeld; obtain ⟨x0, x2, x3⟩ := HLC.out _ hSw; go_simp⟩) hHeld ?_
        try simp only [Act.put]
        refine wpAnyH_take (i := 11) (v := .int .i64 xb) rfl (by kernel_rfl) (by kernel_rfl) (by kernel_rfl) (fun _ _ _ h => h) (Or.inl ⟨by kernel_rfl, fun w1 hSw => by clear hHeld; obtain ⟨x0, x2, x3⟩ := HLC.out _ hSw; go_simp⟩) hHeld ?_
        try simp only [Act.put]
        refine wpAnyH_ready (rs := [8]) (by kernel_rfl) (by simp) ?_
        refine AllReadyH.cons rfl (fun K hK => ?_) AllReadyH.nil
        go_simp
        refine (HP1.out _).mono ?_
        rintro e w0a ⟨rfl, rfl⟩
        refine hK.out _ _ (hHeld) (fun hHeld => ?_)
        clear hK K
        refine wpAnyH_take (i := 9) (v := .int .i64 (1 + (p : Int))) rfl (by kernel_rfl) (by kernel_rfl) (by kernel_rfl) (fun _ _ _ h => h) (Or.inl ⟨by kernel_rfl, fun w1 hSw => by clear hHeld; obtain ⟨x0, x2, x3⟩ := HLC.out _ hSw; go_simp⟩) hHeld ?_
        try simp only [Act.put]
        refine wpAnyH_ready (rs := [12]) (by kernel_rfl) (by simp) ?_
        refine AllReadyH.cons rfl (fun K hK => ?_) AllReadyH.nil
        go_simp
        refine (HP2.out _).mono ?_
        rintro e w1a ⟨rfl, rfl⟩
        refine hK.out _ _ (hHeld) (fun hHeld => ?_)
        clear hK K
        refine wpAnyH_ready (rs := [13]) (by kernel_rfl) (by simp) ?_
        refine AllReadyH.cons rfl (fun K hK => ?_) AllReadyH.nil
        go_simp
        refine HArm.out.mono ?_
        rintro e w3 ⟨rfl, hD3, hM3⟩
        have HD3 := hide hD3
        have HM3 := hide hM3
        have hs3 := (hM3.block _ (show wr.heap.size < w2.heap.size by have := HSZ.out; omega) (fun k => absurd (HFl.out _ k) (Nat.lt_irrefl _))).trans hHeld
        clear hD3 hM3
        refine hK.out _ _ (hs3) (fun hHeld => ?_)
        clear hK K
        refine wpAnyH_take (i := 14) (v := .bool false) rfl (by kernel_rfl) (by kernel_rfl) (by kernel_rfl) (fun _ _ _ h => h) (Or.inl ⟨by kernel_rfl, fun w1 hSw => by clear hHeld; obtain ⟨x0, x2, x3⟩ := HLC.out _ hSw; go_simp⟩) hHeld ?_
        try simp only [Act.put]
        refine wpAnyH_take (i := 15) (v := .bool false) rfl (by kernel_rfl) (by kernel_rfl) (by kernel_rfl) (fun _ _ _ h => h) (Or.inl ⟨by kernel_rfl, fun w1 hSw => by clear hHeld; obtain ⟨x0, x2, x3⟩ := HLC.out _ hSw; go_simp⟩) hHeld ?_
        try simp only [Act.put]
        refine wpAnyH_done (by kernel_rfl) ?_ _
        clear hHeld
        have HB3 : Hid (Below w.heap.size w w3) := hide ((HK2.out.bel.trans ((D.below_drewN w2 1).mono HK2.out.bel.size)).trans (HM3.out.below (by show w.heap.size ≤ w2.heap.size; exact HK2.out.bel.size) HK2.out.dk.ftlow))
        obtain ⟨y0, y2, y3⟩ := HLC.out w3 hs3
        have t3 : w3.cell? ⟨tb, tf, none⟩ = some (.string r) := by
          have := (HB3.out.cell (p := ⟨tb, tf + 0, none⟩) htb).trans HTc.out
          rw [Nat.add_zero] at this
          exact this
        have htb3 : tb < w3.heap.size := Nat.lt_of_lt_of_le htb HB3.out.size
        have hX3 : wr.heap.size < w3.heap.size := lt_of_block hs3
        have HWm3 : Hid (Wm w3 W b ws) := hide ((HM3.out.block W (show W < w2.heap.size by have := HSZ.out; have := HWl.out; omega) HK2.out.nf).trans HK2.out.wm)
        have hpT : (0 : Int) < (T.length : Int) := by omega
        have hnm := HK2.out.nm
        have HA := hide (append_any HD3.out HWm3.out HK2.out.nf (ok_armed HX.out.con.wok _ _) (HK2.out.R2 (by omega)) r)
        obtain ⟨ws2, l2, hX2, hnm2, hSl2, hR2⟩ := HX.out.mended (by omega) r (n := 1 + p) (by omega) (B := (pb : Int)) (by omega) (by omega)
        have HX2 := hide hX2
        have HN2 := hide (And.intro hnm2 (And.intro hSl2 hR2))
        generalize Wl.append (armed d (1 + p) (pb : Int)) ws r = Y at *
        obtain ⟨ye, yd, yw⟩ := Y
        simp only at HA HX2 HN2
        clear hX2 hnm2 hSl2 hR2 hs3
        go_wp2_with fail
        refine HA.out.mono ?_
        rintro e w4 ⟨rfl, hW4, F4, hD4, hM4, hn4⟩
        have HB4 : Hid (Below w.heap.size w w4) := hide (HB3.out.trans (hM4.below HB3.out.size (fun k e => by rcases e with e | e; exact HD3.out.ftlow k e; rw [e]; exact HK2.out.hW)))
        have HRv := hide (D.revive_any hD4)
        have HFl4 := hide hD4.ftlow
        clear hW4 hD4 hM4 hn4 HA y0 y2 y3 t3 htb3 hX3
        go_wp2_with fail
        refine HRv.out.mono ?_
        rintro e w5 ⟨rfl, hD5, hM5⟩
        have HB5 : Hid (Below w.heap.size w w5) := hide (HB4.out.trans (hM5.below HB4.out.size HFl4.out))
        have HO := hide (open_any hD5)
        have HD5 := hide hD5
        clear hD5 hM5 HRv HB4
        go_wp2_with fail
        refine HO.out.mono ?_
        intro e w6 hP
        obtain ⟨hB6, Wv, ada, cpa, rfl, hWv, hWm, hOa, -⟩ := HX2.out.con.opens hP
        rw [HX2.out.ws] at hWm
        have hw5 := HB5.out.size
        have HK6 : Hid (TlI w b Wv (.slice ada l2.length cpa) s l2 l2 yd.revive ws2 F4 (3 * i + 1) w6) := hide ⟨HX2.out.con, by have := HN2.out.1; omega, by have := HN2.out.2.2; have := HK2.out.rl; show yd.R.length ≤ _; omega, HD5.out.below hB6, hWm, fun k => absurd (HD5.out.ftlt Wv k).2 (by omega), by omega, own_base hOa HB5.out.size, HB5.out.trans (hB6.mono HB5.out.size)⟩
        have HSX : Hid (yd.revive.S.length = 2 + 2 * half) := hide (HN2.out.2.1.trans HSl.out)
        have hnm6 := HK6.out.nm
        clear hP hB6 hWm hOa hWv hw5 HO HD5 HB5 HB3 HD3 HM3 HWm3 HK2 HN2 HB2 HSZ HFl HWl HX HSl HFl4
        generalize yd.revive = d2 at *
        have HR6 := hide (room_any HK6.out.dk HK6.out.wm HK6.out.con.wok)
        go_wp2_with fail
        refine HR6.out.mono ?_
        rintro e w7 ⟨rfl, hB7⟩
        have HK7 := hide (HK6.out.below hB7)
        clear hB7 HR6 HK6
        by_cases hr2 : Wl.room d2.S.length ws2.h < 2
        · have dr2 : decide ((Wl.room d2.S.length ws2.h : Int) < 2) = true := decide_eq_true (by omega)
          have HSn := hide (snapshot_any HK7.out.dk HK7.out.wm HK7.out.nf HK7.out.con.wok (HK7.out.R2 (by omega)) ⟨#[]⟩ (by decide))
          obtain ⟨e1, e2, e3, e4, e5⟩ := HX2.out.snapshot_calm (t := ⟨#[]⟩) (Nat.zero_le _) (by omega)
          have HE7 := hide (And.intro e2 (And.intro e3 (And.intro e4 e5)))
          rw [e1] at HSn
          generalize Wl.snapshot d2 ws2 ⟨#[]⟩ = Y7 at *
          obtain ⟨y7, dd7, ww7⟩ := Y7
          simp only at HSn HE7
          clear e1 e2 e3 e4 e5
          go_wp2_with fail
          refine HSn.out.mono ?_
          rintro e w7b ⟨rfl, hWb, Fb, hDb, hMb, hnb⟩
          have HK7b := hide (HK7.out.called HE7.out.1.con (by rw [HE7.out.2.1]; show ws2.h.num + 1 ≤ _; omega) (by have := HE7.out.2.2.1; have := HK7.out.rl; omega) hDb hWb hMb hnb)
          have HX7 := hide HE7.out.1
          have HSX7 : Hid (dd7.S.length = 2 + 2 * half) := hide (HE7.out.2.2.2.trans HSX.out)
          have HRM : Hid (abB.size ≤ Wl.room dd7.S.length ww7.h) := hide (by
            have : Wl.hb dd7.S.length = half * 128 := by rw [HSX7.out]; unfold Wl.hb Wl.hs; omega
            have h5 := HHf.out
            have : 2 ≤ Wl.room dd7.S.length ww7.h := room_two (by rw [HE7.out.2.1]; show 0 + 0 + 3 ≤ _; omega)
            exact this)
          clear hWb hDb hMb hnb HSn HK7 HE7 HX2 HSX
          have HRc := hide (records_any HK7b.out.wm)
          rw [HK7b.out.con.rc] at HRc
          simp only [List.length_nil] at HRc
          go_wp2_with fail
          refine HRc.out.mono ?_
          rintro e w8 ⟨rfl, rfl⟩
          have hnm8 := HK7b.out.nm
          have HA8 := hide (append_any HK7b.out.dk HK7b.out.wm HK7b.out.nf HK7b.out.con.wok (HK7b.out.R2 (by omega)) abB)
          obtain ⟨e1, e2, e3, e4, e5⟩ := HX7.out.append_calm (r := abB) (by decide) (by decide) HRM.out (by omega)
          have HE := hide (And.intro e2 (And.intro e3 (And.intro e4 e5)))
          rw [e1] at HA8
          generalize Wl.append dd7 ww7 abB = Y8 at *
          obtain ⟨y8, dd8, ww8⟩ := Y8
          simp only at HA8 HE
          clear e1 e2 e3 e4 e5 HRc
          go_wp2_with fail
          refine HA8.out.mono ?_
          rintro e w9 ⟨rfl, hW9, F9, hD9, hM9, hn9⟩
          have HK9 := hide (HK7b.out.called HE.out.1.con (by have := HE.out.2.1; omega) (by have := HE.out.2.2.1; have := HK7b.out.rl; omega) hD9 hW9 hM9 hn9)
          have HO9 := hide (open_any HK9.out.dk)
          clear hW9 hD9 hM9 hn9 HA8 HK7b
          go_wp2_with fail
          refine HO9.out.mono ?_
          intro e wa hP
          obtain ⟨hBa, Wz, adm, cpm, rfl, hWz, hWmz, hOm, -⟩ := HK9.out.con.opens hP
          have HKa := hide (HK9.out.below hBa)
          obtain ⟨-, rm, hRm⟩ := D.Rs.own hOm
          have hcpm : ([] : List ByteArray).length + 1 ≤ cpm := by
            rcases D.own_form hOm with ⟨h1, h2⟩ | ⟨g, cap', h1, _, h2, _⟩
            · rw [List.length_append] at h2; simp at h2
            · injection h1 with _ _ h3; subst h3; rw [List.length_append] at h2; exact h2
          have hadm := hRm.at_ (by rw [List.length_append]; simp)
          subst hadm
          have HRm := hide hRm
          have z1 : wa.cell? ⟨rm, ([] : List ByteArray).length, none⟩ = some (.string abB) := by
            have := hRm.cell ([] : List ByteArray).length (by rw [List.length_append]; simp)
            rw [Nat.zero_add] at this
            rw [this]; simp
          have hrml : rm < wa.heap.size := hRm.lt (by rw [List.length_append]; simp)
          clear hP hBa hOm hRm hWz hWmz HO9
          have hab2 : abB = ⟨#[97, 98]⟩ := rfl
          rw [hab2] at z1
          simp only [List.length_nil] at z1 hcpm
          go_wp2_with fail
          go_roundw
          case rel => exact ⟨i + 1, Wv, _, ([] : List ByteArray) ++ [abB], dd8, ww8, F9, rfl, by omega, by go_num, hide (HKa.out.norow.more (by omega)), hide HE.out.1, hide (HE.out.2.2.2.trans HSX7.out)⟩
          case measure => simp only [intOf]; omega
        · have dr2 : decide ((Wl.room d2.S.length ws2.h : Int) < 2) = false := decide_eq_false (by omega)
          have HRM : Hid (abB.size ≤ Wl.room d2.S.length ws2.h) := hide (by show 2 ≤ _; omega)
          have HRc := hide (records_any HK7.out.wm)
          rw [HK7.out.con.rc] at HRc
          skip
          go_wp2_with fail
          refine HRc.out.mono ?_
          rintro e w8 ⟨rfl, rfl⟩
          have hnm8 := HK7.out.nm
          have HA8 := hide (append_any HK7.out.dk HK7.out.wm HK7.out.nf HK7.out.con.wok (HK7.out.R2 (by omega)) abB)
          obtain ⟨e1, e2, e3, e4, e5⟩ := HX2.out.append_calm (r := abB) (by decide) (by decide) HRM.out (by omega)
          have HE := hide (And.intro e2 (And.intro e3 (And.intro e4 e5)))
          rw [e1] at HA8
          generalize Wl.append d2 ws2 abB = Y8 at *
          obtain ⟨y8, dd8, ww8⟩ := Y8
          simp only at HA8 HE
          clear e1 e2 e3 e4 e5 HRc
          go_wp2_with fail
          refine HA8.out.mono ?_
          rintro e w9 ⟨rfl, hW9, F9, hD9, hM9, hn9⟩
          have HK9 := hide (HK7.out.called HE.out.1.con (by have := HE.out.2.1; omega) (by have := HE.out.2.2.1; have := HK7.out.rl; omega) hD9 hW9 hM9 hn9)
          have HO9 := hide (open_any HK9.out.dk)
          clear hW9 hD9 hM9 hn9 HA8 HK7
          go_wp2_with fail
          refine HO9.out.mono ?_
          intro e wa hP
          obtain ⟨hBa, Wz, adm, cpm, rfl, hWz, hWmz, hOm, -⟩ := HK9.out.con.opens hP
          have HKa := hide (HK9.out.below hBa)
          obtain ⟨-, rm, hRm⟩ := D.Rs.own hOm
          have hcpm : l2.length + 1 ≤ cpm := by
            rcases D.own_form hOm with ⟨h1, h2⟩ | ⟨g, cap', h1, _, h2, _⟩
            · rw [List.length_append] at h2; simp at h2
            · injection h1 with _ _ h3; subst h3; rw [List.length_append] at h2; exact h2
          have hadm := hRm.at_ (by rw [List.length_append]; simp)
          subst hadm
          have HRm := hide hRm
          have z1 : wa.cell? ⟨rm, l2.length, none⟩ = some (.string abB) := by
            have := hRm.cell l2.length (by rw [List.length_append]; simp)
            rw [Nat.zero_add] at this
            rw [this]; simp
          have hrml : rm < wa.heap.size := hRm.lt (by rw [List.length_append]; simp)
          clear hP hBa hOm hRm hWz hWmz HO9
          have hab2 : abB = ⟨#[97, 98]⟩ := rfl
          rw [hab2] at z1
          by_cases hl0 : 0 < l2.length
          · have hl0i : decide (0 < (l2.length : Int)) = true := decide_eq_true (by omega)
            obtain ⟨-, rv, hRv⟩ := D.Rs.own HKa.out.own
            have hsm := HKa.out.small
            have HSm := hide (D.same_true (cap := cpm) (cap' := cpa) (Rs_prefix HRm.out) hRv (by rw [List.length_append] at hsm; omega))
            have hlb : l2.length ≤ 65536 := by rw [List.length_append] at hsm; omega
            clear hRv hsm
            have hcp : l2.length ≤ cpm := by omega
            clear hcpm
            go_wp2_with fail
            refine HSm.out.mono ?_
            rintro e wb ⟨rfl, nb, rfl⟩
            have HKb := hide (HKa.out.below (D.below_drewN wa nb))
            generalize wa.drewN nb = wb at *
            clear HSm HKa
            go_wp2_with fail
            go_roundw
            case rel => exact ⟨i + 1, Wv, _, l2 ++ [abB], dd8, ww8, F9, rfl, by omega, by go_num, hide (HKb.out.norow.more (by omega)), hide HE.out.1, hide (HE.out.2.2.2.trans HSX.out)⟩
            case measure => simp only [intOf]; omega
          · have hl0i : decide (0 < (l2.length : Int)) = false := decide_eq_false (by omega)
            go_wp2_with fail
            go_roundw
            case rel => exact ⟨i + 1, Wv, _, l2 ++ [abB], dd8, ww8, F9, rfl, by omega, by go_num, hide (HKa.out.norow.more (by omega)), hide HE.out.1, hide (HE.out.2.2.2.trans HSX.out)⟩
            case measure => simp only [intOf]; omega
    · have hii : ¬ (i : Int) < (Q.length : Int) := by omega
      have HB := hide HK.out.bel
      clear HK
      go_wp2_with fail
      refine (fixed_any _).mono ?_
      rintro e w2 ⟨rfl, hB2⟩
      have HB2 := hide (HB.out.trans (hB2.mono HB.out.size))
      clear hB2
      go_wp2_with fail
      go_ret
      exact ⟨rfl, HB2.out⟩
end Go.Proofs.Ytojghjgbnnkldaa
end

section
namespace Go.Proofs.Ytojghjgbnnkldaa
open Go.RowKit Go.Shelf
open Wl (Hd WS Log)

theorem life_cells9 {w : World} {X : Nat} {a b c d : Value} (h : w.heap[X]? = some (.cells #[a, b, c, d] 33 (0, 0))) : w.cell? ⟨X, 0, none⟩ = some a ∧ w.cell? ⟨X, 1, none⟩ = some b ∧ w.cell? ⟨X, 2, none⟩ = some c ∧ w.cell? ⟨X, 3, none⟩ = some d := by
  refine ⟨?_, ?_, ?_, ?_⟩ <;> simp [World.cell?, h]
/-- a life under way: its disk, its log, what was told, and the box X that holds its texts -/
structure Lv (base : Nat) (w0 : World) (X : Nat) (o : Obj) (b W : Nat) (F : Nat → Prop) (d : D.DS) (ws : WS) (vl : Value) (l : List ByteArray) (w : World) : Prop where
  dk : D.Dk base w b F d
  wm : Wm w W b ws
  nf : ¬ F W
  hW : base ≤ W
  ol : w.ownsRow base 9 1 vl l.length (l.map .string)
  hx : w.heap[X]? = some o
  fx : ¬ F X
  wx : X ≠ W
  bel : Below base w0 w
section
variable {base : Nat} {w0 w w' : World} {X : Nat} {o : Obj} {b W : Nat} {F F' : Nat → Prop} {d d' : D.DS} {ws ws' : WS} {vl : Value} {l : List ByteArray}
theorem Lv.low (h : Lv base w0 X o b W F d ws vl l w) : ∀ k, FW F W k → base ≤ k := fun k hk => hk.elim (fun hk => h.dk.ftlow k hk) (fun e => by rw [e]; exact h.hW)
theorem Lv.below (h : Lv base w0 X o b W F d ws vl l w) (h0 : base ≤ w0.heap.size) (hb : Below w.heap.size w w') : Lv base w0 X o b W F d ws vl l w' :=
  ⟨h.dk.below hb, (hb.block _ (lt_of_block h.wm)).trans h.wm, h.nf, h.hW, own_bl h.ol hb, (hb.block _ (lt_of_block h.hx)).trans h.hx, h.fx, h.wx, h.bel.trans (hb.mono (Nat.le_trans h0 h.bel.size))⟩
theorem Lv.row (h : Lv base w0 X o b W F d ws vl l w) (hm : D.Mv (FW F W) (FW F' W) w w') {v : Value} {n : Nat} {xs : List Value} (ho : w.ownsRow base 9 1 v n xs) : w'.ownsRow base 9 1 v n xs :=
  own_kp ho fun k hk => by
    obtain ⟨cs, hc⟩ := own_blk ho hk
    exact hm.block k (ho.lt k hk).2 (fun hf => hf.elim (dk_str h.dk hc) (wm_str h.wm hc))
theorem Lv.mv (h : Lv base w0 X o b W F d ws vl l w) (h0 : base ≤ w0.heap.size) (hd : D.Dk base w' b F' d') (hw : Wm w' W b ws') (nf : ¬ F' W) (hm : D.Mv (FW F W) (FW F' W) w w') : Lv base w0 X o b W F' d' ws' vl l w' :=
  ⟨hd, hw, nf, h.hW, h.row hm h.ol, (hm.block X (lt_of_block h.hx) (fun hf => hf.elim h.fx h.wx)).trans h.hx, fun hf => by
    rcases hm.foot X (.inl hf) with (e | e) | e
    · exact h.fx e
    · exact h.wx e
    · have := lt_of_block h.hx; omega, h.wx, h.bel.trans (hm.below (Nat.le_trans h0 h.bel.size) h.low)⟩
/-- the disk alone is turned -/
theorem Lv.mvd (h : Lv base w0 X o b W F d ws vl l w) (h0 : base ≤ w0.heap.size) (hd : D.Dk base w' b F' d') (hm : D.Mv F F' w w') : Lv base w0 X o b W F' d' ws vl l w' :=
  h.mv h0 hd ((hm.block W (lt_of_block h.wm) h.nf).trans h.wm) (fun hf => by
    rcases hm.foot W hf with e | e
    · exact h.nf e
    · have := lt_of_block h.wm; omega) ⟨hm.os, hm.tape, hm.output, hm.size, fun k hk hn => hm.block k hk fun hf => hn (.inl hf), fun k hk => by
    rcases hk with hk | hk
    · exact (hm.foot k hk).imp .inl id
    · exact .inl (.inr hk)⟩
theorem Lv.told (h : Lv base w0 X o b W F d ws vl l w) {vm : Value} {m : List ByteArray} (ho : w.ownsRow base 9 1 vm m.length (m.map .string)) : Lv base w0 X o b W F d ws vm m w := ⟨h.dk, h.wm, h.nf, h.hW, ho, h.hx, h.fx, h.wx, h.bel⟩
end
theorem forget_conx {d : D.DS} {ws : WS} {s : ByteArray} {l : List ByteArray} (h : ConX d ws s l) : ConX d.forget ws s l := h.same rfl ⟨h.con.ok.1, h.con.ok.2, h.con.ok.3, h.con.ok.4, h.con.ok.5, h.con.ok.6, h.con.ok.7⟩ h.con.live h.con.calm
/-- with the whole disk beside, and what the call is to tell -/
structure Lc (base : Nat) (w0 : World) (X : Nat) (o : Obj) (b W bw : Nat) (F G : Nat → Prop) (d d0 : D.DS) (ws : WS) (vl vm : Value) (l m : List ByteArray) (w : World) : Prop where
  lv : Lv base w0 X o b W F d ws vl l w
  ck : D.Dk base w bw G d0
  fg : ∀ k, F k → ¬ G k
  gw : ¬ G W
  om : w.ownsRow base 9 1 vm m.length (m.map .string)
section
variable {base : Nat} {w0 w w' : World} {X : Nat} {o : Obj} {b W bw : Nat} {F F' G : Nat → Prop} {d d' d0 : D.DS} {ws ws' : WS} {vl vm : Value} {l m : List ByteArray}
theorem Lc.cu (h : Lc base w0 X o b W bw F G d d0 ws vl vm l m w) : Cu base w b bw W F G d d0 ws vl vm l m := ⟨h.lv.dk, h.lv.wm, h.lv.nf, h.lv.hW, h.ck, h.fg, h.gw, h.lv.ol, h.om⟩
theorem Lc.below (h : Lc base w0 X o b W bw F G d d0 ws vl vm l m w) (h0 : base ≤ w0.heap.size) (hb : Below w.heap.size w w') : Lc base w0 X o b W bw F G d d0 ws vl vm l m w' := ⟨h.lv.below h0 hb, h.ck.below hb, h.fg, h.gw, own_bl h.om hb⟩
theorem Lc.mv (h : Lc base w0 X o b W bw F G d d0 ws vl vm l m w) (h0 : base ≤ w0.heap.size) (hd : D.Dk base w' b F' d') (hw : Wm w' W b ws') (nf : ¬ F' W) (hm : D.Mv (FW F W) (FW F' W) w w') : Lc base w0 X o b W bw F' G d' d0 ws' vl vm l m w' := by
  have c := h.cu.mv hd hw nf hm
  exact ⟨h.lv.mv h0 hd hw nf hm, c.ck, c.fg, c.gw, c.om⟩
theorem Lc.arm (h : Lc base w0 X o b W bw F G d d0 ws vl vm l m w) (h0 : base ≤ w0.heap.size) (hd : D.Dk base w' b F d') (hm : D.Mv F F w w') : Lc base w0 X o b W bw F G d' d0 ws vl vm l m w' :=
  h.mv h0 hd ((hm.block W (lt_of_block h.lv.wm) h.lv.nf).trans h.lv.wm) h.lv.nf (Mv.fw hm)
theorem Lc.of (h : Lv base w0 X o b W F d ws vl l w) (h0 : base ≤ w0.heap.size) (ho : w.ownsRow base 9 1 vm m.length (m.map .string)) (hc : D.Dk w.heap.size w' bw G d0) (hb : Below w.heap.size w w') : Lc base w0 X o b W bw F G d d0 ws vl vm l m w' :=
  ⟨h.below h0 hb, hc.lower (Nat.le_trans h0 h.bel.size), fun k hk hg => by have := (h.dk.ftlt k hk).2; have := hc.ftlow k hg; omega, fun hg => by have := lt_of_block h.wm; have := hc.ftlow W hg; omega, own_bl ho hb⟩
end
end Go.Proofs.Ytojghjgbnnkldaa
end
