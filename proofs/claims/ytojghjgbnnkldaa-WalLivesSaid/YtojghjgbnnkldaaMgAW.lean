import Derived.Test.YtojghjgbnnkldaaMgAV
import Derived.Test.YtojghjgbnnkldaaMgAS

section
namespace Go.Proofs.Ytojghjgbnnkldaa
open Go.RowKit Go.Shelf
open Wl (Hd WS Log)

theorem Mv.fw {F : Nat → Prop} {W : Nat} {w w' : World} (h : D.Mv F F w w') : D.Mv (FW F W) (FW F W) w w' := ⟨h.os, h.tape, h.output, h.size, fun k hk hn => h.block k hk fun hf => hn (.inl hf), fun _ hk => .inl hk⟩
theorem own_lo9 {w : World} {B B' n : Nat} {e : TypeId} {v : Value} {xs : List Value} (h : w.ownsRow B' e 1 v n xs) (hB : B ≤ B') : w.ownsRow B e 1 v n xs := by
  refine ⟨h.1, ?_⟩
  rcases h.2 with h1 | ⟨g, cap, cur, h0, hb, h2⟩
  · exact .inl h1
  · exact .inr ⟨g, cap, cur, h0, Nat.le_trans hB hb, h2⟩
theorem gone_append {d : D.DS} {ws : WS} (h : ws.gone = true) (r : ByteArray) : Wl.append d ws r = (2, d, ws) := by
  obtain ⟨a, b, c⟩ := ws
  simp only at h
  subst h
  unfold Wl.append Wl.powered
  rw [if_pos (.inl rfl)]
theorem gone_snapshot {d : D.DS} {ws : WS} (h : ws.gone = true) (r : ByteArray) : Wl.snapshot d ws r = (2, d, ws) := by
  obtain ⟨a, b, c⟩ := ws
  simp only at h
  subst h
  unfold Wl.snapshot Wl.powered
  rw [if_pos (.inl rfl)]
/-- what a cut leaves: ahead of the call, or behind it -/
structure Dn (d1 d0 : D.DS) (ws wsg : WS) (s t : ByteArray) (l m : List ByteArray) (kk : Nat) (B : Int) (ws' : WS) (s' : ByteArray) (l' : List ByteArray) : Prop where
  dead : d1.dead = true
  gone : wsg = { ws with gone := true }
  len : d1.S.length = d0.S.length
  con : ConX d1.revive ws' s' l'
  way : (d1.R.length = kk ∧ B = 128 ∧ s' = t ∧ l' = m) ∨ (¬ (d1.R.length = kk ∧ B = 128) ∧ s' = s ∧ l' = l)
theorem dn_of {d0 : D.DS} {ws ws1 : WS} {s t : ByteArray} {l m : List ByteArray} {K n : Nat} {B : Int} {Y : Int × D.DS × WS} (hE : Ends d0 ws ws1 s t l m K n B Y) (h2 : Y.1 = 2) (hR0 : d0.R.length = 0) : ∃ ws' s' l', Dn Y.2.1 d0 ws Y.2.2 s t l m K B ws' s' l' := by
  cases hE with
  | no _ k => exact absurd h2 k
  | yes k => rw [h2] at k; cases k
  | last _ hn hB hd hw hR hC _ hl => exact ⟨_, _, _, hd, hw, hl, hC, .inl ⟨by omega, hB, rfl, rfl⟩⟩
  | cut _ h1 hn hB hd hw hR hC _ hl => exact ⟨_, _, _, hd, hw, hl, hC, .inr ⟨fun hh => hB ⟨by omega, hh.2⟩, rfl, rfl⟩⟩
theorem Dn.ok {d1 d0 : D.DS} {ws wsg : WS} {s t : ByteArray} {l m : List ByteArray} {kk : Nat} {B : Int} {ws' : WS} {s' : ByteArray} {l' : List ByteArray} (h : Dn d1 d0 ws wsg s t l m kk B ws' s' l') (o : Wl.Ok d0 ws) : Wl.Ok d1 wsg := by
  rw [h.gone]
  exact ⟨by rw [h.len]; exact o.fits, o.num, o.half, o.sn, by rw [h.len]; exact o.used, o.rc⟩
theorem same_own {w : World} {base n n1 n2 n3 c c' : Nat} {ad ad' : Option Addr} {l : List ByteArray} (h : w.ownsRow base 9 1 (.slice ad n c) n1 (l.map .string)) (h' : w.ownsRow base 9 1 (.slice ad' n2 c') n3 (l.map .string)) (e : n = l.length) (e1 : n1 = l.length) (e2 : n2 = l.length) (e3 : n3 = l.length) (hl : l.length ≤ 65600) :
    Calls Try.prog 16 #[.slice ad n c, .slice ad' n2 c'] w fun e w' => e = .returned (.bool true) ∧ ∃ n, w' = w.drewN n := by
  subst e e1 e2 e3
  obtain ⟨-, ab, hr⟩ := D.Rs.own h
  obtain ⟨-, ab', hr'⟩ := D.Rs.own h'
  exact D.same_true hr hr' (by omega)
set_option maxHeartbeats 4000000 in
set_option maxRecDepth 8000 in
theorem cut_al {base : Nat} {w : World} {b bw W : Nat} {F G : Nat → Prop} {d1 d0 : D.DS} {ws wsg ws' : WS} {s r s' : ByteArray} {l l' m : List ByteArray} {adl adm : Option Addr} {cpl cpm : Nat} {B : Int} (h : Cu base w b bw W F G d1 d0 wsg (.slice adl l.length cpl) (.slice adm m.length cpm) l m) (hm : m = l ++ [r]) (hX : ConX d0 ws s l) (hR0 : d0.R.length = 0) (hdead : d1.dead = true) (hgo : wsg = { ws with gone := true }) (hlen : d1.S.length = d0.S.length) (hcon : ConX d1.revive ws' s' l') (h2 : (Wl.append d0 ws r).1 = 0) (hRw : (Wl.append d0 ws r).2.1.R.length = kA d0 ws r + 1) (hRb : kA d0 ws r + 1 ≤ 600) (hrz : r.size ≤ 140737488351232) (hB : base ≤ w.heap.size) (hway : (d1.R.length = kA d0 ws r ∧ B = 128 ∧ s' = s ∧ l' = m)) :
    Calls Try.prog 31 #[.pointer (some ⟨b, 0, none⟩), .pointer (some ⟨bw, 0, none⟩), .pointer (some ⟨W, 0, none⟩), .string s, .slice adl l.length cpl, .string s, .slice adm m.length cpm, .int .i64 B] w fun e w' => e = .returned (.bool true) ∧ (∃ F', D.Dk base w' b F' d1.revive) ∧ Below base w w' := by
  have HMq := hide hm
  clear hm
  have HX := hide hX
  have HCn := hide hcon
  have HRz := hide hrz
  have H2 := hide h2
  have HRw := hide hRw
  have hgone : wsg.gone = true := by rw [hgo]
  have hOk : Wl.Ok d1 wsg := by
    have o := hX.con.wok
    rw [hgo]
    exact ⟨by rw [hlen]; exact o.fits, o.num, o.half, o.sn, by rw [hlen]; exact o.used, o.rc⟩
  have HA := hide (append_any h.dk h.wm h.nf hOk (by omega) ⟨#[120]⟩)
  rw [gone_append hgone] at HA
  have HDe := hide (D.dead_any h.dk)
  rw [hdead] at HDe
  have HWd := hide (dead_any9 h.wm)
  rw [hgone] at HWd
  have HC := hide h
  have HG := hide hgone
  have HOk := hide hOk
  obtain ⟨nd, hnd⟩ : ∃ nd, d1.R.length = nd := ⟨_, rfl⟩
  have HNd := hide hnd
  have hll : l.length ≤ 65536 := by rw [← hX.con.rc]; exact hX.con.wok.rc
  have hnd6 : nd ≤ 600 := by omega
  obtain ⟨kk, hkk⟩ : ∃ kk, kA d0 ws r = kk := ⟨_, rfl⟩
  have hkk6 : kk ≤ 600 := by omega
  rw [hkk] at HRw hway
  rw [hnd] at hway
  have HW := hide hway
  have HR0 := hide hR0
  clear h hX hcon hdead hgo hlen hway h2 hRw hgone hOk hnd hrz hRb hkk hR0
  go_enter Try.func31, Try.ntmps31
  go_wp2_with fail
  refine HDe.out.mono ?_
  rintro e w1 ⟨rfl, rfl⟩
  go_wp2_with fail
  refine HWd.out.mono ?_
  rintro e w1 ⟨rfl, rfl⟩
  go_wp2_with fail
  refine HA.out.mono ?_
  rintro e w2 ⟨rfl, hw2, F2, hd2, hm2, nf2⟩
  have HB2 := hide (hm2.below hB HC.out.low)
  have HC := hide (HC.out.mv hd2 hw2 nf2 hm2)
  clear hw2 hd2 hm2 nf2 HA HDe HWd
  have HSn := hide (snapshot_any HC.out.dk HC.out.wm HC.out.nf HOk.out (by have := HNd.out; omega) ⟨#[]⟩ (by show (0 : Nat) ≤ _; decide))
  rw [gone_snapshot HG.out] at HSn
  go_wp2_with fail
  refine HSn.out.mono ?_
  rintro e w3 ⟨rfl, hw3, F3, hd3, hm3, nf3⟩
  have HB3 := hide (HB2.out.trans (hm3.below (Nat.le_trans hB HB2.out.size) HC.out.low))
  have HC := hide (HC.out.mv hd3 hw3 nf3 hm3)
  clear hw3 hd3 hm3 nf3 HSn HB2
  go_wp2_with fail
  refine (D.raw_any HC.out.dk (by have := HNd.out; omega)).mono ?_
  rintro e w4 ⟨v4, rfl, hown4, hb4⟩
  obtain ⟨ad4, cap4, hv4⟩ := own_sl hown4
  rw [HNd.out] at hv4
  subst hv4
  have HB4 := hide (HB3.out.trans (hb4.mono (Nat.le_trans hB HB3.out.size)))
  have HC := hide (HC.out.below hb4)
  clear hown4 hb4 HB3
  go_wp2_with fail
  refine (D.revive_any HC.out.dk).mono ?_
  rintro e w5 ⟨rfl, hd5, hm5⟩
  have hw5 := (hm5.block W (lt_of_block HC.out.wm) HC.out.nf).trans HC.out.wm
  have hm5 := Mv.fw (W := W) hm5
  have HB5 := hide (HB4.out.trans (hm5.below (Nat.le_trans hB HB4.out.size) HC.out.low))
  have HC := hide (HC.out.mv hd5 hw5 HC.out.nf hm5)
  clear hd5 hm5 HB4 hw5
  go_wp2_with fail
  refine (told_any HC.out.dk (by exact HCn.out) rfl).mono ?_
  rintro e w6 ⟨adt, cpt, rfl, hot, hb6⟩
  have hB5 : base ≤ w5.heap.size := Nat.le_trans hB HB5.out.size
  have HT := hide (own_lo9 hot hB5)
  have HB6 := hide (HB5.out.trans (hb6.mono hB5))
  have HC := hide (HC.out.below hb6)
  clear hot hb6 HB5 HCn
  go_wp2_with fail
  refine (open_any HC.out.ck).mono ?_
  intro e w7 hP
  obtain ⟨hb7, V, ad7, cp7, rfl, hV, hVm, -, -⟩ := HX.out.con.opens hP
  rw [HX.out.ws] at hVm
  have HB7 := hide (HB6.out.trans (hb7.mono (Nat.le_trans hB HB6.out.size)))
  have hB7 : base ≤ w7.heap.size := Nat.le_trans hB HB7.out.size
  have HT := hide (own_bl HT.out hb7)
  have HE : Hid (Cu base w7 bw b V G F3 d0 d1.revive ws (.slice adl l.length cpl) (.slice adm m.length cpm) l m) := hide (by
    have c := HC.out.below hb7
    exact ⟨c.ck, hVm, fun k => by have := (HC.out.ck.ftlt _ k).2; omega, by have := HB6.out.size; omega, c.dk, fun k k1 k2 => c.fg k k2 k1, fun k => by have := (HC.out.dk.ftlt _ k).2; omega, c.ol, c.om⟩)
  clear hP hb7 hVm HC HB6
  have hm := HMq.out
  have hml : m.length = l.length + 1 := by rw [hm, List.length_append]; rfl
  obtain ⟨abm, HM⟩ := HE.out.rsm (ad := adm) (c := cpm) rfl
  have hat := HM.at_ (by omega)
  subst hat
  have hcm : w7.cell? ⟨abm, 0 + l.length, none⟩ = some (.string r) := by
    have := HM.cell l.length (by omega)
    rw [this]
    simp [hm]
  rw [Nat.zero_add] at hcm
  clear HM
  have hmz : ((m.length : Int) == 0) = false := beq_eq_false_iff_ne.2 (by omega)
  have hmw : IntKind.i64.wrap ((m.length : Int) - 1) = (l.length : Int) := by rw [IntKind.wrap_i64]; omega
  have hmb : (l.length : Int) < (m.length : Int) := by omega
  have hmn : l.length < m.length := by omega
  have hm6 : m.length ≤ 65600 := by omega
  clear hm hml HMq
  go_wp2_with fail
  refine (append_any HE.out.dk HE.out.wm HE.out.nf HX.out.con.wok (by have := HR0.out; omega) r).mono ?_
  rintro e w8 ⟨rfl, hw8, F8, hd8, hm8, nf8⟩
  rw [H2.out]
  have HB8 := hide (HB7.out.trans (hm8.below hB7 HE.out.low))
  have HT := hide (HE.out.row hm8 HT.out)
  have HE := hide (HE.out.mv hd8 hw8 nf8 hm8)
  clear hw8 hd8 hm8 nf8 HB7
  go_wp2_with fail
  refine (D.raw_any HE.out.dk (by have := HRw.out; omega)).mono ?_
  rintro e w9 ⟨v9, rfl, hown9, hb9⟩
  obtain ⟨ad9, cap9, hv9⟩ := own_sl hown9
  rw [HRw.out] at hv9
  subst hv9
  have HB9 := hide (HB8.out.trans (hb9.mono (Nat.le_trans hB HB8.out.size)))
  have HE := hide (HE.out.below hb9)
  have HT := hide (own_bl HT.out hb9)
  clear hown9 hb9 HB8
  have hkw : IntKind.i64.wrap (((kk + 1 : Nat) : Int) - 1) = (kk : Int) := by rw [IntKind.wrap_i64]; omega
  obtain ⟨rfl, rfl, rfl, rfl⟩ := HW.out
  go_wp2_with fail
  refine (same_own HT.out HE.out.om (by first | rfl | simp) (by first | rfl | simp) (by first | rfl | simp) (by first | rfl | simp) (by first | omega | simp | (simp; omega))).mono ?_
  rintro e wz ⟨rfl, nn, rfl⟩
  go_wp2_with fail
  go_ret
  exact ⟨rfl, ⟨_, HE.out.ck.below (D.below_drewN _ _)⟩, HB9.out.trans ((D.below_drewN _ _).mono (Nat.le_trans hB HB9.out.size))⟩
set_option maxHeartbeats 4000000 in
set_option maxRecDepth 8000 in
theorem cut_ac {base : Nat} {w : World} {b bw W : Nat} {F G : Nat → Prop} {d1 d0 : D.DS} {ws wsg ws' : WS} {s r s' : ByteArray} {l l' m : List ByteArray} {adl adm : Option Addr} {cpl cpm : Nat} {B : Int} (h : Cu base w b bw W F G d1 d0 wsg (.slice adl l.length cpl) (.slice adm m.length cpm) l m) (hm : m = l ++ [r]) (hX : ConX d0 ws s l) (hR0 : d0.R.length = 0) (hdead : d1.dead = true) (hgo : wsg = { ws with gone := true }) (hlen : d1.S.length = d0.S.length) (hcon : ConX d1.revive ws' s' l') (h2 : (Wl.append d0 ws r).1 = 0) (hRw : (Wl.append d0 ws r).2.1.R.length = kA d0 ws r + 1) (hRb : kA d0 ws r + 1 ≤ 600) (hR1 : d1.R.length ≤ 600) (hrz : r.size ≤ 140737488351232) (hB : base ≤ w.heap.size) (hway : (¬ (d1.R.length = kA d0 ws r ∧ B = 128) ∧ s' = s ∧ l' = l)) :
    Calls Try.prog 31 #[.pointer (some ⟨b, 0, none⟩), .pointer (some ⟨bw, 0, none⟩), .pointer (some ⟨W, 0, none⟩), .string s, .slice adl l.length cpl, .string s, .slice adm m.length cpm, .int .i64 B] w fun e w' => e = .returned (.bool true) ∧ (∃ F', D.Dk base w' b F' d1.revive) ∧ Below base w w' := by
  have HMq := hide hm
  clear hm
  have HX := hide hX
  have HCn := hide hcon
  have HRz := hide hrz
  have H2 := hide h2
  have HRw := hide hRw
  have hgone : wsg.gone = true := by rw [hgo]
  have hOk : Wl.Ok d1 wsg := by
    have o := hX.con.wok
    rw [hgo]
    exact ⟨by rw [hlen]; exact o.fits, o.num, o.half, o.sn, by rw [hlen]; exact o.used, o.rc⟩
  have HA := hide (append_any h.dk h.wm h.nf hOk (by omega) ⟨#[120]⟩)
  rw [gone_append hgone] at HA
  have HDe := hide (D.dead_any h.dk)
  rw [hdead] at HDe
  have HWd := hide (dead_any9 h.wm)
  rw [hgone] at HWd
  have HC := hide h
  have HG := hide hgone
  have HOk := hide hOk
  obtain ⟨nd, hnd⟩ : ∃ nd, d1.R.length = nd := ⟨_, rfl⟩
  have HNd := hide hnd
  have hll : l.length ≤ 65536 := by rw [← hX.con.rc]; exact hX.con.wok.rc
  have hnd6 : nd ≤ 600 := by omega
  obtain ⟨kk, hkk⟩ : ∃ kk, kA d0 ws r = kk := ⟨_, rfl⟩
  have hkk6 : kk ≤ 600 := by omega
  rw [hkk] at HRw hway
  rw [hnd] at hway
  have HW := hide hway
  have HR0 := hide hR0
  clear h hX hcon hdead hgo hlen hway h2 hRw hgone hOk hnd hrz hR1 hRb hkk hR0
  go_enter Try.func31, Try.ntmps31
  go_wp2_with fail
  refine HDe.out.mono ?_
  rintro e w1 ⟨rfl, rfl⟩
  go_wp2_with fail
  refine HWd.out.mono ?_
  rintro e w1 ⟨rfl, rfl⟩
  go_wp2_with fail
  refine HA.out.mono ?_
  rintro e w2 ⟨rfl, hw2, F2, hd2, hm2, nf2⟩
  have HB2 := hide (hm2.below hB HC.out.low)
  have HC := hide (HC.out.mv hd2 hw2 nf2 hm2)
  clear hw2 hd2 hm2 nf2 HA HDe HWd
  have HSn := hide (snapshot_any HC.out.dk HC.out.wm HC.out.nf HOk.out (by have := HNd.out; omega) ⟨#[]⟩ (by show (0 : Nat) ≤ _; decide))
  rw [gone_snapshot HG.out] at HSn
  go_wp2_with fail
  refine HSn.out.mono ?_
  rintro e w3 ⟨rfl, hw3, F3, hd3, hm3, nf3⟩
  have HB3 := hide (HB2.out.trans (hm3.below (Nat.le_trans hB HB2.out.size) HC.out.low))
  have HC := hide (HC.out.mv hd3 hw3 nf3 hm3)
  clear hw3 hd3 hm3 nf3 HSn HB2
  go_wp2_with fail
  refine (D.raw_any HC.out.dk (by have := HNd.out; omega)).mono ?_
  rintro e w4 ⟨v4, rfl, hown4, hb4⟩
  obtain ⟨ad4, cap4, hv4⟩ := own_sl hown4
  rw [HNd.out] at hv4
  subst hv4
  have HB4 := hide (HB3.out.trans (hb4.mono (Nat.le_trans hB HB3.out.size)))
  have HC := hide (HC.out.below hb4)
  clear hown4 hb4 HB3
  go_wp2_with fail
  refine (D.revive_any HC.out.dk).mono ?_
  rintro e w5 ⟨rfl, hd5, hm5⟩
  have hw5 := (hm5.block W (lt_of_block HC.out.wm) HC.out.nf).trans HC.out.wm
  have hm5 := Mv.fw (W := W) hm5
  have HB5 := hide (HB4.out.trans (hm5.below (Nat.le_trans hB HB4.out.size) HC.out.low))
  have HC := hide (HC.out.mv hd5 hw5 HC.out.nf hm5)
  clear hd5 hm5 HB4 hw5
  go_wp2_with fail
  refine (told_any HC.out.dk (by exact HCn.out) rfl).mono ?_
  rintro e w6 ⟨adt, cpt, rfl, hot, hb6⟩
  have hB5 : base ≤ w5.heap.size := Nat.le_trans hB HB5.out.size
  have HT := hide (own_lo9 hot hB5)
  have HB6 := hide (HB5.out.trans (hb6.mono hB5))
  have HC := hide (HC.out.below hb6)
  clear hot hb6 HB5 HCn
  go_wp2_with fail
  refine (open_any HC.out.ck).mono ?_
  intro e w7 hP
  obtain ⟨hb7, V, ad7, cp7, rfl, hV, hVm, -, -⟩ := HX.out.con.opens hP
  rw [HX.out.ws] at hVm
  have HB7 := hide (HB6.out.trans (hb7.mono (Nat.le_trans hB HB6.out.size)))
  have hB7 : base ≤ w7.heap.size := Nat.le_trans hB HB7.out.size
  have HT := hide (own_bl HT.out hb7)
  have HE : Hid (Cu base w7 bw b V G F3 d0 d1.revive ws (.slice adl l.length cpl) (.slice adm m.length cpm) l m) := hide (by
    have c := HC.out.below hb7
    exact ⟨c.ck, hVm, fun k => by have := (HC.out.ck.ftlt _ k).2; omega, by have := HB6.out.size; omega, c.dk, fun k k1 k2 => c.fg k k2 k1, fun k => by have := (HC.out.dk.ftlt _ k).2; omega, c.ol, c.om⟩)
  clear hP hb7 hVm HC HB6
  have hm := HMq.out
  have hml : m.length = l.length + 1 := by rw [hm, List.length_append]; rfl
  obtain ⟨abm, HM⟩ := HE.out.rsm (ad := adm) (c := cpm) rfl
  have hat := HM.at_ (by omega)
  subst hat
  have hcm : w7.cell? ⟨abm, 0 + l.length, none⟩ = some (.string r) := by
    have := HM.cell l.length (by omega)
    rw [this]
    simp [hm]
  rw [Nat.zero_add] at hcm
  clear HM
  have hmz : ((m.length : Int) == 0) = false := beq_eq_false_iff_ne.2 (by omega)
  have hmw : IntKind.i64.wrap ((m.length : Int) - 1) = (l.length : Int) := by rw [IntKind.wrap_i64]; omega
  have hmb : (l.length : Int) < (m.length : Int) := by omega
  have hmn : l.length < m.length := by omega
  have hm6 : m.length ≤ 65600 := by omega
  clear hm hml HMq
  go_wp2_with fail
  refine (append_any HE.out.dk HE.out.wm HE.out.nf HX.out.con.wok (by have := HR0.out; omega) r).mono ?_
  rintro e w8 ⟨rfl, hw8, F8, hd8, hm8, nf8⟩
  rw [H2.out]
  have HB8 := hide (HB7.out.trans (hm8.below hB7 HE.out.low))
  have HT := hide (HE.out.row hm8 HT.out)
  have HE := hide (HE.out.mv hd8 hw8 nf8 hm8)
  clear hw8 hd8 hm8 nf8 HB7
  go_wp2_with fail
  refine (D.raw_any HE.out.dk (by have := HRw.out; omega)).mono ?_
  rintro e w9 ⟨v9, rfl, hown9, hb9⟩
  obtain ⟨ad9, cap9, hv9⟩ := own_sl hown9
  rw [HRw.out] at hv9
  subst hv9
  have HB9 := hide (HB8.out.trans (hb9.mono (Nat.le_trans hB HB8.out.size)))
  have HE := hide (HE.out.below hb9)
  have HT := hide (own_bl HT.out hb9)
  clear hown9 hb9 HB8
  have hkw : IntKind.i64.wrap (((kk + 1 : Nat) : Int) - 1) = (kk : Int) := by rw [IntKind.wrap_i64]; omega
  obtain ⟨hno, rfl, rfl⟩ := HW.out
  by_cases hk1 : nd = kk
  · have hb1 : B ≠ 128 := fun e => hno ⟨hk1, e⟩
    have hb2 : (B == 128) = false := by simp [hb1]
    subst hk1
    go_wp2_with fail
    refine (same_own HT.out HE.out.ol (by first | rfl | simp) (by first | rfl | simp) (by first | rfl | simp) (by first | rfl | simp) (by first | omega | simp | (simp; omega))).mono ?_
    rintro e wz ⟨rfl, nn, rfl⟩
    go_wp2_with fail
    go_ret
    exact ⟨rfl, ⟨_, HE.out.ck.below (D.below_drewN _ _)⟩, HB9.out.trans ((D.below_drewN _ _).mono (Nat.le_trans hB HB9.out.size))⟩
  · have hk2 : ((nd : Int) == (kk : Int)) = false := by simp; omega
    go_wp2_with fail
    refine (same_own HT.out HE.out.ol (by first | rfl | simp) (by first | rfl | simp) (by first | rfl | simp) (by first | rfl | simp) (by first | omega | simp | (simp; omega))).mono ?_
    rintro e wz ⟨rfl, nn, rfl⟩
    go_wp2_with fail
    go_ret
    exact ⟨rfl, ⟨_, HE.out.ck.below (D.below_drewN _ _)⟩, HB9.out.trans ((D.below_drewN _ _).mono (Nat.le_trans hB HB9.out.size))⟩
set_option maxHeartbeats 4000000 in
set_option maxRecDepth 8000 in
theorem cut_sl {base : Nat} {w : World} {b bw W : Nat} {F G : Nat → Prop} {d1 d0 : D.DS} {ws wsg ws' : WS} {s r s' : ByteArray} {l l' : List ByteArray} {adl adm : Option Addr} {cpl cpm : Nat} {B : Int} (h : Cu base w b bw W F G d1 d0 wsg (.slice adl l.length cpl) (.slice adm 0 cpm) l ([] : List ByteArray)) (hX : ConX d0 ws s l) (hR0 : d0.R.length = 0) (hdead : d1.dead = true) (hgo : wsg = { ws with gone := true }) (hlen : d1.S.length = d0.S.length) (hcon : ConX d1.revive ws' s' l') (h2 : (Wl.snapshot d0 ws r).1 = 0) (hRw : (Wl.snapshot d0 ws r).2.1.R.length = kS r + 1) (hRb : kS r + 1 ≤ 600) (hrz : r.size ≤ 140737488351232) (hB : base ≤ w.heap.size) (hway : (d1.R.length = kS r ∧ B = 128 ∧ s' = r ∧ l' = ([] : List ByteArray))) :
    Calls Try.prog 31 #[.pointer (some ⟨b, 0, none⟩), .pointer (some ⟨bw, 0, none⟩), .pointer (some ⟨W, 0, none⟩), .string s, .slice adl l.length cpl, .string r, .slice adm 0 cpm, .int .i64 B] w fun e w' => e = .returned (.bool true) ∧ (∃ F', D.Dk base w' b F' d1.revive) ∧ Below base w w' := by
  have HX := hide hX
  have HCn := hide hcon
  have HRz := hide hrz
  have H2 := hide h2
  have HRw := hide hRw
  have hgone : wsg.gone = true := by rw [hgo]
  have hOk : Wl.Ok d1 wsg := by
    have o := hX.con.wok
    rw [hgo]
    exact ⟨by rw [hlen]; exact o.fits, o.num, o.half, o.sn, by rw [hlen]; exact o.used, o.rc⟩
  have HA := hide (append_any h.dk h.wm h.nf hOk (by omega) ⟨#[120]⟩)
  rw [gone_append hgone] at HA
  have HDe := hide (D.dead_any h.dk)
  rw [hdead] at HDe
  have HWd := hide (dead_any9 h.wm)
  rw [hgone] at HWd
  have HC := hide h
  have HG := hide hgone
  have HOk := hide hOk
  obtain ⟨nd, hnd⟩ : ∃ nd, d1.R.length = nd := ⟨_, rfl⟩
  have HNd := hide hnd
  have hll : l.length ≤ 65536 := by rw [← hX.con.rc]; exact hX.con.wok.rc
  have hnd6 : nd ≤ 600 := by omega
  obtain ⟨kk, hkk⟩ : ∃ kk, kS r = kk := ⟨_, rfl⟩
  have hkk6 : kk ≤ 600 := by omega
  rw [hkk] at HRw hway
  rw [hnd] at hway
  have HW := hide hway
  have HR0 := hide hR0
  clear h hX hcon hdead hgo hlen hway h2 hRw hgone hOk hnd hrz hRb hkk hR0
  go_enter Try.func31, Try.ntmps31
  go_wp2_with fail
  refine HDe.out.mono ?_
  rintro e w1 ⟨rfl, rfl⟩
  go_wp2_with fail
  refine HWd.out.mono ?_
  rintro e w1 ⟨rfl, rfl⟩
  go_wp2_with fail
  refine HA.out.mono ?_
  rintro e w2 ⟨rfl, hw2, F2, hd2, hm2, nf2⟩
  have HB2 := hide (hm2.below hB HC.out.low)
  have HC := hide (HC.out.mv hd2 hw2 nf2 hm2)
  clear hw2 hd2 hm2 nf2 HA HDe HWd
  have HSn := hide (snapshot_any HC.out.dk HC.out.wm HC.out.nf HOk.out (by have := HNd.out; omega) ⟨#[]⟩ (by show (0 : Nat) ≤ _; decide))
  rw [gone_snapshot HG.out] at HSn
  go_wp2_with fail
  refine HSn.out.mono ?_
  rintro e w3 ⟨rfl, hw3, F3, hd3, hm3, nf3⟩
  have HB3 := hide (HB2.out.trans (hm3.below (Nat.le_trans hB HB2.out.size) HC.out.low))
  have HC := hide (HC.out.mv hd3 hw3 nf3 hm3)
  clear hw3 hd3 hm3 nf3 HSn HB2
  go_wp2_with fail
  refine (D.raw_any HC.out.dk (by have := HNd.out; omega)).mono ?_
  rintro e w4 ⟨v4, rfl, hown4, hb4⟩
  obtain ⟨ad4, cap4, hv4⟩ := own_sl hown4
  rw [HNd.out] at hv4
  subst hv4
  have HB4 := hide (HB3.out.trans (hb4.mono (Nat.le_trans hB HB3.out.size)))
  have HC := hide (HC.out.below hb4)
  clear hown4 hb4 HB3
  go_wp2_with fail
  refine (D.revive_any HC.out.dk).mono ?_
  rintro e w5 ⟨rfl, hd5, hm5⟩
  have hw5 := (hm5.block W (lt_of_block HC.out.wm) HC.out.nf).trans HC.out.wm
  have hm5 := Mv.fw (W := W) hm5
  have HB5 := hide (HB4.out.trans (hm5.below (Nat.le_trans hB HB4.out.size) HC.out.low))
  have HC := hide (HC.out.mv hd5 hw5 HC.out.nf hm5)
  clear hd5 hm5 HB4 hw5
  go_wp2_with fail
  refine (told_any HC.out.dk (by exact HCn.out) rfl).mono ?_
  rintro e w6 ⟨adt, cpt, rfl, hot, hb6⟩
  have hB5 : base ≤ w5.heap.size := Nat.le_trans hB HB5.out.size
  have HT := hide (own_lo9 hot hB5)
  have HB6 := hide (HB5.out.trans (hb6.mono hB5))
  have HC := hide (HC.out.below hb6)
  clear hot hb6 HB5 HCn
  go_wp2_with fail
  refine (open_any HC.out.ck).mono ?_
  intro e w7 hP
  obtain ⟨hb7, V, ad7, cp7, rfl, hV, hVm, -, -⟩ := HX.out.con.opens hP
  rw [HX.out.ws] at hVm
  have HB7 := hide (HB6.out.trans (hb7.mono (Nat.le_trans hB HB6.out.size)))
  have hB7 : base ≤ w7.heap.size := Nat.le_trans hB HB7.out.size
  have HT := hide (own_bl HT.out hb7)
  have HE : Hid (Cu base w7 bw b V G F3 d0 d1.revive ws (.slice adl l.length cpl) (.slice adm 0 cpm) l ([] : List ByteArray)) := hide (by
    have c := HC.out.below hb7
    exact ⟨c.ck, hVm, fun k => by have := (HC.out.ck.ftlt _ k).2; omega, by have := HB6.out.size; omega, c.dk, fun k k1 k2 => c.fg k k2 k1, fun k => by have := (HC.out.dk.ftlt _ k).2; omega, c.ol, c.om⟩)
  clear hP hb7 hVm HC HB6
  go_wp2_with fail
  refine (snapshot_any HE.out.dk HE.out.wm HE.out.nf HX.out.con.wok (by have := HR0.out; omega) r HRz.out).mono ?_
  rintro e w8 ⟨rfl, hw8, F8, hd8, hm8, nf8⟩
  rw [H2.out]
  have HB8 := hide (HB7.out.trans (hm8.below hB7 HE.out.low))
  have HT := hide (HE.out.row hm8 HT.out)
  have HE := hide (HE.out.mv hd8 hw8 nf8 hm8)
  clear hw8 hd8 hm8 nf8 HB7
  go_wp2_with fail
  refine (D.raw_any HE.out.dk (by have := HRw.out; omega)).mono ?_
  rintro e w9 ⟨v9, rfl, hown9, hb9⟩
  obtain ⟨ad9, cap9, hv9⟩ := own_sl hown9
  rw [HRw.out] at hv9
  subst hv9
  have HB9 := hide (HB8.out.trans (hb9.mono (Nat.le_trans hB HB8.out.size)))
  have HE := hide (HE.out.below hb9)
  have HT := hide (own_bl HT.out hb9)
  clear hown9 hb9 HB8
  have hkw : IntKind.i64.wrap (((kk + 1 : Nat) : Int) - 1) = (kk : Int) := by rw [IntKind.wrap_i64]; omega
  obtain ⟨rfl, rfl, rfl, rfl⟩ := HW.out
  go_wp2_with fail
  refine (same_own HT.out HE.out.om (by first | rfl | simp) (by first | rfl | simp) (by first | rfl | simp) (by first | rfl | simp) (by first | omega | simp | (simp; omega))).mono ?_
  rintro e wz ⟨rfl, nn, rfl⟩
  go_wp2_with fail
  go_ret
  exact ⟨rfl, ⟨_, HE.out.ck.below (D.below_drewN _ _)⟩, HB9.out.trans ((D.below_drewN _ _).mono (Nat.le_trans hB HB9.out.size))⟩
set_option maxHeartbeats 4000000 in
set_option maxRecDepth 8000 in
theorem cut_sc {base : Nat} {w : World} {b bw W : Nat} {F G : Nat → Prop} {d1 d0 : D.DS} {ws wsg ws' : WS} {s r s' : ByteArray} {l l' : List ByteArray} {adl adm : Option Addr} {cpl cpm : Nat} {B : Int} (h : Cu base w b bw W F G d1 d0 wsg (.slice adl l.length cpl) (.slice adm 0 cpm) l ([] : List ByteArray)) (hX : ConX d0 ws s l) (hR0 : d0.R.length = 0) (hdead : d1.dead = true) (hgo : wsg = { ws with gone := true }) (hlen : d1.S.length = d0.S.length) (hcon : ConX d1.revive ws' s' l') (h2 : (Wl.snapshot d0 ws r).1 = 0) (hRw : (Wl.snapshot d0 ws r).2.1.R.length = kS r + 1) (hRb : kS r + 1 ≤ 600) (hR1 : d1.R.length ≤ 600) (hrz : r.size ≤ 140737488351232) (hB : base ≤ w.heap.size) (hway : (¬ (d1.R.length = kS r ∧ B = 128) ∧ s' = s ∧ l' = l)) :
    Calls Try.prog 31 #[.pointer (some ⟨b, 0, none⟩), .pointer (some ⟨bw, 0, none⟩), .pointer (some ⟨W, 0, none⟩), .string s, .slice adl l.length cpl, .string r, .slice adm 0 cpm, .int .i64 B] w fun e w' => e = .returned (.bool true) ∧ (∃ F', D.Dk base w' b F' d1.revive) ∧ Below base w w' := by
  have HX := hide hX
  have HCn := hide hcon
  have HRz := hide hrz
  have H2 := hide h2
  have HRw := hide hRw
  have hgone : wsg.gone = true := by rw [hgo]
  have hOk : Wl.Ok d1 wsg := by
    have o := hX.con.wok
    rw [hgo]
    exact ⟨by rw [hlen]; exact o.fits, o.num, o.half, o.sn, by rw [hlen]; exact o.used, o.rc⟩
  have HA := hide (append_any h.dk h.wm h.nf hOk (by omega) ⟨#[120]⟩)
  rw [gone_append hgone] at HA
  have HDe := hide (D.dead_any h.dk)
  rw [hdead] at HDe
  have HWd := hide (dead_any9 h.wm)
  rw [hgone] at HWd
  have HC := hide h
  have HG := hide hgone
  have HOk := hide hOk
  obtain ⟨nd, hnd⟩ : ∃ nd, d1.R.length = nd := ⟨_, rfl⟩
  have HNd := hide hnd
  have hll : l.length ≤ 65536 := by rw [← hX.con.rc]; exact hX.con.wok.rc
  have hnd6 : nd ≤ 600 := by omega
  obtain ⟨kk, hkk⟩ : ∃ kk, kS r = kk := ⟨_, rfl⟩
  have hkk6 : kk ≤ 600 := by omega
  rw [hkk] at HRw hway
  rw [hnd] at hway
  have HW := hide hway
  have HR0 := hide hR0
  clear h hX hcon hdead hgo hlen hway h2 hRw hgone hOk hnd hrz hR1 hRb hkk hR0
  go_enter Try.func31, Try.ntmps31
  go_wp2_with fail
  refine HDe.out.mono ?_
  rintro e w1 ⟨rfl, rfl⟩
  go_wp2_with fail
  refine HWd.out.mono ?_
  rintro e w1 ⟨rfl, rfl⟩
  go_wp2_with fail
  refine HA.out.mono ?_
  rintro e w2 ⟨rfl, hw2, F2, hd2, hm2, nf2⟩
  have HB2 := hide (hm2.below hB HC.out.low)
  have HC := hide (HC.out.mv hd2 hw2 nf2 hm2)
  clear hw2 hd2 hm2 nf2 HA HDe HWd
  have HSn := hide (snapshot_any HC.out.dk HC.out.wm HC.out.nf HOk.out (by have := HNd.out; omega) ⟨#[]⟩ (by show (0 : Nat) ≤ _; decide))
  rw [gone_snapshot HG.out] at HSn
  go_wp2_with fail
  refine HSn.out.mono ?_
  rintro e w3 ⟨rfl, hw3, F3, hd3, hm3, nf3⟩
  have HB3 := hide (HB2.out.trans (hm3.below (Nat.le_trans hB HB2.out.size) HC.out.low))
  have HC := hide (HC.out.mv hd3 hw3 nf3 hm3)
  clear hw3 hd3 hm3 nf3 HSn HB2
  go_wp2_with fail
  refine (D.raw_any HC.out.dk (by have := HNd.out; omega)).mono ?_
  rintro e w4 ⟨v4, rfl, hown4, hb4⟩
  obtain ⟨ad4, cap4, hv4⟩ := own_sl hown4
  rw [HNd.out] at hv4
  subst hv4
  have HB4 := hide (HB3.out.trans (hb4.mono (Nat.le_trans hB HB3.out.size)))
  have HC := hide (HC.out.below hb4)
  clear hown4 hb4 HB3
  go_wp2_with fail
  refine (D.revive_any HC.out.dk).mono ?_
  rintro e w5 ⟨rfl, hd5, hm5⟩
  have hw5 := (hm5.block W (lt_of_block HC.out.wm) HC.out.nf).trans HC.out.wm
  have hm5 := Mv.fw (W := W) hm5
  have HB5 := hide (HB4.out.trans (hm5.below (Nat.le_trans hB HB4.out.size) HC.out.low))
  have HC := hide (HC.out.mv hd5 hw5 HC.out.nf hm5)
  clear hd5 hm5 HB4 hw5
  go_wp2_with fail
  refine (told_any HC.out.dk (by exact HCn.out) rfl).mono ?_
  rintro e w6 ⟨adt, cpt, rfl, hot, hb6⟩
  have hB5 : base ≤ w5.heap.size := Nat.le_trans hB HB5.out.size
  have HT := hide (own_lo9 hot hB5)
  have HB6 := hide (HB5.out.trans (hb6.mono hB5))
  have HC := hide (HC.out.below hb6)
  clear hot hb6 HB5 HCn
  go_wp2_with fail
  refine (open_any HC.out.ck).mono ?_
  intro e w7 hP
  obtain ⟨hb7, V, ad7, cp7, rfl, hV, hVm, -, -⟩ := HX.out.con.opens hP
  rw [HX.out.ws] at hVm
  have HB7 := hide (HB6.out.trans (hb7.mono (Nat.le_trans hB HB6.out.size)))
  have hB7 : base ≤ w7.heap.size := Nat.le_trans hB HB7.out.size
  have HT := hide (own_bl HT.out hb7)
  have HE : Hid (Cu base w7 bw b V G F3 d0 d1.revive ws (.slice adl l.length cpl) (.slice adm 0 cpm) l ([] : List ByteArray)) := hide (by
    have c := HC.out.below hb7
    exact ⟨c.ck, hVm, fun k => by have := (HC.out.ck.ftlt _ k).2; omega, by have := HB6.out.size; omega, c.dk, fun k k1 k2 => c.fg k k2 k1, fun k => by have := (HC.out.dk.ftlt _ k).2; omega, c.ol, c.om⟩)
  clear hP hb7 hVm HC HB6
  go_wp2_with fail
  refine (snapshot_any HE.out.dk HE.out.wm HE.out.nf HX.out.con.wok (by have := HR0.out; omega) r HRz.out).mono ?_
  rintro e w8 ⟨rfl, hw8, F8, hd8, hm8, nf8⟩
  rw [H2.out]
  have HB8 := hide (HB7.out.trans (hm8.below hB7 HE.out.low))
  have HT := hide (HE.out.row hm8 HT.out)
  have HE := hide (HE.out.mv hd8 hw8 nf8 hm8)
  clear hw8 hd8 hm8 nf8 HB7
  go_wp2_with fail
  refine (D.raw_any HE.out.dk (by have := HRw.out; omega)).mono ?_
  rintro e w9 ⟨v9, rfl, hown9, hb9⟩
  obtain ⟨ad9, cap9, hv9⟩ := own_sl hown9
  rw [HRw.out] at hv9
  subst hv9
  have HB9 := hide (HB8.out.trans (hb9.mono (Nat.le_trans hB HB8.out.size)))
  have HE := hide (HE.out.below hb9)
  have HT := hide (own_bl HT.out hb9)
  clear hown9 hb9 HB8
  have hkw : IntKind.i64.wrap (((kk + 1 : Nat) : Int) - 1) = (kk : Int) := by rw [IntKind.wrap_i64]; omega
  obtain ⟨hno, rfl, rfl⟩ := HW.out
  by_cases hk1 : nd = kk
  · have hb1 : B ≠ 128 := fun e => hno ⟨hk1, e⟩
    have hb2 : (B == 128) = false := by simp [hb1]
    subst hk1
    go_wp2_with fail
    refine (same_own HT.out HE.out.ol (by first | rfl | simp) (by first | rfl | simp) (by first | rfl | simp) (by first | rfl | simp) (by first | omega | simp | (simp; omega))).mono ?_
    rintro e wz ⟨rfl, nn, rfl⟩
    go_wp2_with fail
    go_ret
    exact ⟨rfl, ⟨_, HE.out.ck.below (D.below_drewN _ _)⟩, HB9.out.trans ((D.below_drewN _ _).mono (Nat.le_trans hB HB9.out.size))⟩
  · have hk2 : ((nd : Int) == (kk : Int)) = false := by simp; omega
    go_wp2_with fail
    refine (same_own HT.out HE.out.ol (by first | rfl | simp) (by first | rfl | simp) (by first | rfl | simp) (by first | rfl | simp) (by first | omega | simp | (simp; omega))).mono ?_
    rintro e wz ⟨rfl, nn, rfl⟩
    go_wp2_with fail
    go_ret
    exact ⟨rfl, ⟨_, HE.out.ck.below (D.below_drewN _ _)⟩, HB9.out.trans ((D.below_drewN _ _).mono (Nat.le_trans hB HB9.out.size))⟩
theorem cut_any9 {base : Nat} {w : World} {b bw W : Nat} {F G : Nat → Prop} {d1 d0 : D.DS} {ws wsg ws' : WS} {s r s' : ByteArray} {l l' : List ByteArray} {adl adm : Option Addr} {cpl cpm : Nat} {B : Int} (sb : Bool) (h : Cu base w b bw W F G d1 d0 wsg (.slice adl l.length cpl) (.slice adm (lB sb l r).length cpm) l (lB sb l r)) (hX : ConX d0 ws s l) (hR0 : d0.R.length = 0) (hD : Dn d1 d0 ws wsg s (sB sb s r) l (lB sb l r) (kB sb d0 ws r) B ws' s' l') (h2 : (cl sb d0 ws r).1 = 0) (hRw : (cl sb d0 ws r).2.1.R.length = kB sb d0 ws r + 1) (hRb : kB sb d0 ws r + 1 ≤ 600) (hR1 : d1.R.length ≤ 600) (hrz : r.size ≤ 140737488351232) (hB : base ≤ w.heap.size) :
    Calls Try.prog 31 #[.pointer (some ⟨b, 0, none⟩), .pointer (some ⟨bw, 0, none⟩), .pointer (some ⟨W, 0, none⟩), .string s, .slice adl l.length cpl, .string (sB sb s r), .slice adm (lB sb l r).length cpm, .int .i64 B] w fun e w' => e = .returned (.bool true) ∧ (∃ F', D.Dk base w' b F' d1.revive) ∧ Below base w w' := by
  cases sb
  · rcases hD.way with k | k
    · exact cut_al h rfl hX hR0 hD.dead hD.gone hD.len hD.con h2 hRw hRb hrz hB k
    · exact cut_ac h rfl hX hR0 hD.dead hD.gone hD.len hD.con h2 hRw hRb hR1 hrz hB k
  · rcases hD.way with k | k
    · exact cut_sl h hX hR0 hD.dead hD.gone hD.len hD.con h2 hRw hRb hrz hB k
    · exact cut_sc h hX hR0 hD.dead hD.gone hD.len hD.con h2 hRw hRb hR1 hrz hB k
end Go.Proofs.Ytojghjgbnnkldaa
end

section
namespace Go.Proofs.Ytojghjgbnnkldaa
open Go.RowKit Go.Shelf
theorem cut_str (W : World) (rm n N cap : Nat) (h : n ≤ cap) : (Instr.slice 30 (.slice (some ⟨rm, 0, none⟩) N cap) none (some (.int .i64 (n : Int))) none).run Try.prog W = .ok (.slice (some ⟨rm, 0, none⟩) n cap) W := by
  have hi : (n : Int) ≤ (cap : Int) := by omega
  rw [run_slice_h (P := Try.prog) W 30 (some ⟨rm, 0, none⟩) N cap (by simp [Program.elem, Try.underlying30]) .i64 (n : Int) (by omega) hi]
  have e : Try.prog.elem 30 = 9 := by simp [Program.elem, Try.underlying30]
  rw [e]
  go_simp
theorem cut_strAt (W : World) (rm n N cap : Nat) (h : n ≤ cap) : (Instr.sliceAt 30 (.slice (some ⟨rm, 0, none⟩) N cap) none (some (.int .i64 (n : Int))) none).run Try.prog W = .ok (.slice (some ⟨rm, 0, none⟩) n cap) W := by
  rw [run_sliceAt_slice (P := Try.prog) W 30 _ _ _ _ (by simp [Program.elem, Try.underlying30]), cut_str W rm n N cap h]
end Go.Proofs.Ytojghjgbnnkldaa
end
