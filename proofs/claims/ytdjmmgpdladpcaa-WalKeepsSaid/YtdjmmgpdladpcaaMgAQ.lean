import Derived.Test.YtdjmmgpdladpcaaMgAP

section
namespace Go.Proofs.Ytdjmmgpdladpcaa
open Go.RowKit Go.Shelf
open Wl (Hd WS Log)

/-- the loop's state -/
structure KpI (w0 : World) (b W : Nat) (v : Value) (l : List ByteArray) (d : D.DS) (ws : WS) (F : Nat → Prop) (w : World) : Prop where
  con : Con d ws ⟨#[]⟩ l
  sl : d.S.length = 20
  nm : ws.h.num = 1 + l.length
  rl : d.R.length ≤ 1 + 600 * l.length
  dk : D.Dk w0.heap.size w b F d
  wm : Wm w W b ws
  nf : ¬ F W
  hW : w0.heap.size ≤ W
  own : w.ownsRow w0.heap.size 9 1 v l.length (l.map .string)
  bel : Below w0.heap.size w0 w
theorem KpI.small {w0 : World} {b W : Nat} {v : Value} {l : List ByteArray} {d : D.DS} {ws : WS} {F : Nat → Prop} {w : World} (h : KpI w0 b W v l d ws F w) : l.length ≤ 65536 := by
  have := h.con.wok.rc; rw [h.con.rc] at this; exact this
theorem KpI.R {w0 : World} {b W : Nat} {v : Value} {l : List ByteArray} {d : D.DS} {ws : WS} {F : Nat → Prop} {w : World} (h : KpI w0 b W v l d ws F w) : (d.R.length + 600) * 24 ≤ 140737488355328 := by
  have h1 := h.small
  have h2 := h.rl
  exact Nat.le_trans (Nat.mul_le_mul_right 24 (show d.R.length + 600 ≤ 100000000 by omega)) (by decide)
/-- only new blocks -/
theorem KpI.below {w0 : World} {b W : Nat} {v : Value} {l : List ByteArray} {d : D.DS} {ws : WS} {F : Nat → Prop} {w w' : World} (h : KpI w0 b W v l d ws F w) (hb : Below w.heap.size w w') : KpI w0 b W v l d ws F w' :=
  ⟨h.con, h.sl, h.nm, h.rl, h.dk.below hb, h.wm.below hb, h.nf, h.hW, D.own_keep h.own fun k hk => hb.block k (own_lo h.own hk).2, h.bel.trans (hb.mono h.bel.size)⟩
/-- a call of Append -/
theorem KpI.called {w0 : World} {b W : Nat} {v : Value} {l l' : List ByteArray} {d d' : D.DS} {ws ws' : WS} {F F' : Nat → Prop} {w w' : World} (h : KpI w0 b W v l d ws F w) (hC : Con d' ws' ⟨#[]⟩ l') (hs : d'.S.length = 20) (hn : ws'.h.num = 1 + l'.length) (hr : d'.R.length ≤ 1 + 600 * l'.length)
    (hD : D.Dk w0.heap.size w' b F' d') (hW : Wm w' W b ws') (hM : D.Mv (FW F W) (FW F' W) w w') (hf : ¬ F' W) : Con d' ws' ⟨#[]⟩ l' ∧ d'.S.length = 20 ∧ ws'.h.num = 1 + l'.length ∧ d'.R.length ≤ 1 + 600 * l'.length ∧ D.Dk w0.heap.size w' b F' d' ∧ Wm w' W b ws' ∧ ¬ F' W ∧ w'.ownsRow w0.heap.size 9 1 v l.length (l.map .string) ∧ Below w0.heap.size w0 w' := by
  refine ⟨hC, hs, hn, hr, hD, hW, hf, D.own_keep h.own fun k hk => ?_, h.bel.trans (hM.below h.bel.size fun k hk => ?_)⟩
  · obtain ⟨cs, hcs⟩ := own_blk h.own hk
    exact hM.block k (lt_of_block hcs) (fun e => by rcases e with e | e; exact dk_str h.dk hcs e; exact wm_str h.wm hcs e)
  · rcases hk with hk | hk
    · exact h.dk.ftlow k hk
    · rw [hk]; exact h.hW
/-- what is wanted grows -/
theorem KpI.grown {w0 : World} {b W : Nat} {v v' : Value} {l l' : List ByteArray} {d : D.DS} {ws : WS} {F : Nat → Prop} {w w1 w' : World} {xs : List Value} (hC : Con d ws ⟨#[]⟩ l') (hs : d.S.length = 20) (hn : ws.h.num = 1 + l'.length) (hr : d.R.length ≤ 1 + 600 * l'.length) (hD : D.Dk w0.heap.size w b F d) (hW : Wm w W b ws) (hf : ¬ F W) (hWl : w0.heap.size ≤ W) (ho : w.ownsRow w0.heap.size 9 1 v l.length xs) (hb : Below w0.heap.size w0 w)
    (h1 : Below w.heap.size w w1) (hg : w1.grownBy w' v.ownBlock) (ho' : w'.ownsRow w0.heap.size 9 1 v' l'.length (l'.map .string)) : KpI w0 b W v' l' d ws F w' := by
  have hk : ∀ k, k < w.heap.size → v.ownBlock ≠ some k → w'.heap[k]? = w.heap[k]? := fun k hk hn => (hg.block k (Nat.lt_of_lt_of_le hk h1.size) (Ne.symm hn)).trans (h1.block k hk)
  refine ⟨hC, hs, hn, hr, hD.keep fun k hk' => hk k (hD.ftlt k hk').2 (fun e => ?_), (hk W (lt_of_block hW) (fun e => ?_)).trans hW, hf, hWl, ho', (hb.trans (h1.mono hb.size)).grown hg (Nat.le_trans hb.size h1.size) (fun k hk' => (own_lo ho hk').1)⟩
  · obtain ⟨cs, hcs⟩ := own_blk ho e; exact dk_str hD hcs hk'
  · obtain ⟨cs, hcs⟩ := own_blk ho e; exact wm_str hW hcs rfl
theorem records_any {w : World} {W b : Nat} {ws : WS} (hw : Wm w W b ws) : Calls Try.prog 13 #[.pointer (some ⟨W, 0, none⟩)] w fun e w' => e = .returned (.int .i64 (ws.rc : Int)) ∧ w' = w := by
  obtain ⟨c0, c1, c2, c3, c4, c5, c6, cz⟩ := wm_cells hw
  have hl := lt_of_block hw
  clear hw
  go_enter Try.func13, Try.ntmps13
  go_wp2
  go_ret
  exact ⟨rfl, rfl⟩
theorem own_put {w : World} {base e size n g : Nat} {v : Value} {xs : List Value} (h : w.ownsRow base e size v n xs) (hv : v.ownBlock = some g) (i : Nat) (u : Value) : ∃ ys, (w.setCell ⟨g, i, none⟩ u).ownsRow base e size v n ys := by
  rcases h.2 with ⟨rfl, _⟩ | ⟨g', cap, cur, rfl, hb, hgg, hn, hm, hc, ht⟩
  · cases hv
  · injection hv with hv
    have hv : g' = g := hv
    subst hv
    refine ⟨(cur.setIfInBounds i u).toList.take (n * size), ?_, .inr ⟨g', cap, cur.setIfInBounds i u, rfl, hb, heap_set_self w g' i u cur _ _ hgg, hn, hm, by simpa using hc, rfl⟩⟩
    rw [List.length_take, Array.length_toList, Array.size_setIfInBounds, hc]
    exact Nat.min_eq_left (Nat.mul_le_mul_right _ hn)
/-- all but one row of texts stays -/
theorem KpI.but {w0 : World} {b W : Nat} {v A : Value} {l : List ByteArray} {d : D.DS} {ws : WS} {F : Nat → Prop} {w w' : World} (h : KpI w0 b W v l d ws F w) (hA : ∀ g, A.ownBlock = some g → (∃ cs, w.heap[g]? = some (.cells cs 9 (0, 0))) ∧ v.ownBlock ≠ some g)
    (hk : ∀ k, k < w.heap.size → A.ownBlock ≠ some k → w'.heap[k]? = w.heap[k]?) (hb : Below w0.heap.size w0 w') : KpI w0 b W v l d ws F w' := by
  refine ⟨h.con, h.sl, h.nm, h.rl, h.dk.keep fun k hk' => hk k (h.dk.ftlt k hk').2 (fun e => ?_), (hk W (lt_of_block h.wm) (fun e => ?_)).trans h.wm, h.nf, h.hW, D.own_keep h.own fun k hk' => hk k (own_lo h.own hk').2 (fun e => (hA k e).2 hk'), hb⟩
  · obtain ⟨⟨cs, hcs⟩, _⟩ := hA k e; exact dk_str h.dk hcs hk'
  · obtain ⟨⟨cs, hcs⟩, _⟩ := hA W e; exact wm_str h.wm hcs rfl
end Go.Proofs.Ytdjmmgpdladpcaa
end

section
namespace Go.Proofs.Ytdjmmgpdladpcaa
open Go.RowKit Go.Shelf
open Wl (Hd WS Log)

set_option maxHeartbeats 4000000 in
set_option maxRecDepth 8000 in
theorem walKeeps_walk {w : World} {ad : Option Addr} {tb tf cap : Nat} {T : List ByteArray} (hT : D.Rs w ad tb tf T) (hTl : T.length ≤ 8796093021952) :
    Calls Try.prog 4 #[.slice ad T.length cap] w fun e w' => e = .returned (.bool true) ∧ Below w.heap.size w w' := by
  obtain ⟨iS, hiS, zS0, zS1, zS2⟩ := info_parts D.Try.infoS
  obtain ⟨d1, hf1, hC1, hR1, hS1⟩ := con_format (n := 20) (by decide)
  have HN := hide (D.new_any (w := w) (n := 20) (by decide) (by decide))
  have HC1 := hide hC1
  have Hf1 := hide hf1
  have HR1 := hide hR1
  have HS1 := hide hS1
  have HT := hide hT
  clear hC1 hf1 hR1 hS1 hT
  go_enter Try.func4, Try.ntmps4
  go_wp2_with fail
  refine HN.out.mono ?_
  rintro e w1 ⟨b, F, rfl, hD, hB1⟩
  have HF := hide (format_any hD (by decide))
  have HFl1 := hide hD.ftlow
  have HB1 := hide hB1
  clear hD hB1 HN
  rw [Hf1.out] at HF
  go_wp2_with fail
  refine HF.out.mono ?_
  rintro e w2 ⟨rfl, F2, hD2, hM2⟩
  have HB2 := hide (HB1.out.trans (hM2.below HB1.out.size HFl1.out))
  have HO := hide (open_any hD2)
  have HD2 := hide hD2
  clear hD2 hM2 HF
  go_wp2_with fail
  refine HO.out.mono ?_
  intro e w3 hP
  obtain ⟨hB3, W, ad3, cp3, rfl, hW, hWm, -, -⟩ := HC1.out.opens hP
  have HB3 := hide (HB2.out.trans (hB3.mono HB2.out.size))
  have h2s := HB2.out.size
  have hFW : ¬ F2 W := fun k => absurd (HD2.out.ftlt W k).2 (by omega)
  have HK0 : Hid (KpI w b W (.slice (some ⟨w3.heap.size, 0, none⟩) 0 0) [] d1 ⟨Wl.h1, 0, false⟩ F2 (w3.alloc (.cells #[] 9))) := hide ⟨HC1.out, HS1.out, rfl, by rw [HR1.out]; decide, (HD2.out.below hB3).alloc _, hWm.below (below_alloc _ _), hFW, by omega, World.ownsRow_made w3 #[] 0 HB3.out.size (by decide) rfl, HB3.out.alloc HB3.out.size _⟩
  clear hP hB3 hWm HO HD2 HB1 HB2 HFl1
  go_wp2_with fail
  go_loopw [9, 10] (fun u t wr => ∃ (i : Nat) (v : Value) (l : List ByteArray) (d : D.DS) (ws : WS) (F : Nat → Prop), v = u ∧ i ≤ T.length ∧ t = .int .i64 (i : Int) ∧ Hid (KpI w b W v l d ws F wr)) (fun _ t _ => T.length - (intOf t).toNat)
  case atStart => exact ⟨0, _, [], d1, _, F2, rfl, Nat.zero_le _, rfl, HK0⟩
  case round =>
    obtain ⟨i, v, l, d, ws, F, rfl, hi, rfl, HK⟩ := hrel
    clear HK0 HC1 Hf1 HR1 HS1 HB3
    by_cases hil : i < T.length
    · have hii : (i : Int) < (T.length : Int) := by omega
      have hat := HT.out.at_ (by omega)
      subst hat
      have hbel := HK.out.bel
      have hTb : tb < w.heap.size := HT.out.lt (by omega)
      have x1 : wr.cell? ⟨tb, tf + i, none⟩ = some (.string T[i]) := (hbel.cell (p := ⟨tb, tf + i, none⟩) hTb).trans (HT.out.cell i hil)
      have hTw : tb < wr.heap.size := Nat.lt_of_lt_of_le hTb hbel.size
      have hnum : ws.h.num < 1099511627776 := by have := HK.out.nm; have := HK.out.small; omega
      have HA := hide (append_any HK.out.dk HK.out.wm HK.out.nf HK.out.con.wok HK.out.R T[i])
      have HOr := hide (HK.out.con.append_or hnum T[i])
      have HX1 : Hid (∀ V, Below w.heap.size w V → V.cell? ⟨tb, tf + i, none⟩ = some (.string T[i])) := hide fun V hV => (hV.cell (p := ⟨tb, tf + i, none⟩) hTb).trans (HT.out.cell i hil)
      generalize T[i] = r at *
      generalize Wl.append d ws r = X at *
      obtain ⟨xe, xd, xw⟩ := X
      simp only at HA HOr
      clear hbel
      go_wp2_with fail
      refine HA.out.mono ?_
      rintro e w4 ⟨rfl, hW4, F4, hD4, hM4, hn4⟩
      rcases HOr.out with ⟨h0, hC, hh, hRr, hS⟩ | ⟨h0, hd, hws⟩
      · subst h0
        have hnm2 : xw.h.num = 1 + (l ++ [r]).length := by rw [hh]; show ws.h.num + 1 = _; rw [HK.out.nm, List.length_append, List.length_singleton]; omega
        obtain ⟨k1, k2, k3, k4, k5, k6, k7, k8, k9⟩ := HK.out.called hC (by rw [hS]; exact HK.out.sl) hnm2 (by rw [List.length_append, List.length_singleton]; have := HK.out.rl; omega) hD4 hW4 hM4 hn4
        have x2 := HX1.out w4 k9
        have hT4 : tb < w4.heap.size := Nat.lt_of_lt_of_le hTb k9.size
        have hsm := HK.out.small
        have hWl := HK.out.hW
        have HK8 := hide k8
        have HK9 := hide k9
        have H15 := hide (And.intro k1 (And.intro k2 (And.intro k3 (And.intro k4 (And.intro k5 (And.intro k6 k7))))))
        clear hW4 hD4 hM4 hC hh hRr hS k1 k2 k3 k4 k5 k6 k7 k8 k9 HA HOr x1 hnm2 HX1
        go_wp2_with (at_builtin; refine wpList_append_own _ rfl _ _ 32 rfl w.heap.size 9 iS (.string ByteArray.empty) 1 16 Try.underlying32 hiS zS0 zS1 zS2 rfl (by decide) v l.length _ rfl (HK8.out.alloc _) ⟨w4.heap.size, 0, none⟩ 1 1 [.string r] rfl rfl (one_new _ _ _) (by intro u hu; simp at hu; subst hu; rfl) (by unfold maxLen; omega) (by omega) (by rw [World.size_alloc]; have := HK9.out.size; omega) ?_; intro va wa howna hgrowa hnila)
        refine ⟨⟨i + 1, va, l ++ [r], xd, xw, F4, rfl, by omega, rfl, hide (KpI.grown H15.out.1 H15.out.2.1 H15.out.2.2.1 H15.out.2.2.2.1 H15.out.2.2.2.2.1 H15.out.2.2.2.2.2.1 H15.out.2.2.2.2.2.2 hWl HK8.out HK9.out (below_alloc _ _) hgrowa (by rw [List.length_append, List.length_singleton, List.map_append]; exact howna))⟩, ?_⟩
        simp only [intOf]; omega
      · have bx : (xe == 0) = false := by simpa using h0
        subst hd hws
        obtain ⟨k1, k2, k3, k4, k5, k6, k7, k8, k9⟩ := HK.out.called HK.out.con HK.out.sl HK.out.nm HK.out.rl hD4 hW4 hM4 hn4
        have HK2 : Hid (KpI w b W v l xd xw F4 w4) := hide ⟨k1, k2, k3, k4, k5, k6, k7, HK.out.hW, k8, k9⟩
        clear hW4 hD4 hM4 k1 k2 k3 k4 k5 k6 k7 k8 k9 HA HOr x1 h0 HK HX1
        go_wp2_with fail
        go_roundw
        case rel => exact ⟨i + 1, v, l, xd, xw, F4, rfl, by omega, rfl, HK2⟩
        case measure => simp only [intOf]; omega
    · have hii : ¬ (i : Int) < (T.length : Int) := by omega
      have HO := hide (open_any HK.out.dk)
      have HKv : Hid (∀ k, v.ownBlock = some k → k < wr.heap.size) := hide fun k hk => (own_lo HK.out.own hk).2
      have hw0 := HK.out.bel.size
      go_wp2_with fail
      refine HO.out.mono ?_
      intro e w5 hP
      obtain ⟨hB5, Wa, ada, cpa, rfl, -, -, hOa, -⟩ := HK.out.con.opens hP
      have HK5 := hide (HK.out.below hB5)
      have HOa := hide hOa
      have h5s := hB5.size
      have HO5 := hide (open_any HK5.out.dk)
      clear hP hOa hB5 HO
      go_wp2_with fail
      refine HO5.out.mono ?_
      intro e w6 hP
      obtain ⟨hB6, Wb, adb, cpb, rfl, -, -, hOb, -⟩ := HK5.out.con.opens hP
      have HK6 := hide (HK5.out.below hB6)
      have HOa6 := hide (D.own_keep HOa.out fun k hk => hB6.block k (own_lo HOa.out hk).2)
      have HGa : Hid (∀ k, (Value.slice ada l.length cpa).ownBlock = some k → wr.heap.size ≤ k ∧ k < w5.heap.size) := hide fun k hk => own_lo HOa.out hk
      have HOb := hide hOb
      have h6s := hB6.size
      obtain ⟨adv, cpv, rfl⟩ := D.own_slice HK6.out.own
      obtain ⟨-, ra, hRa⟩ := D.Rs.own HOa6.out
      obtain ⟨-, rv, hRv⟩ := D.Rs.own HK6.out.own
      have hsm := HK6.out.small
      have HSm := hide (D.same_true (cap := cpa) (cap' := cpv) hRa hRv (by omega))
      clear hP hOb hB6 HO5 HK5 HOa hRa hRv HK
      go_wp2_with fail
      refine HSm.out.mono ?_
      rintro e w7 ⟨rfl, nd, rfl⟩
      have HK7 := hide (HK6.out.below (D.below_drewN w6 nd))
      have HOa7 : Hid ((w6.drewN nd).ownsRow wr.heap.size 9 1 (.slice ada l.length cpa) l.length (l.map .string)) := HOa6
      have HOb7 : Hid ((w6.drewN nd).ownsRow w5.heap.size 9 1 (.slice adb l.length cpb) l.length (l.map .string)) := HOb
      have h67 : w5.heap.size ≤ (w6.drewN nd).heap.size := h6s
      generalize w6.drewN nd = w7 at *
      clear HSm HK6 HOa6 HOb
      have H67 : Hid (w5.heap.size ≤ w7.heap.size) := hide h67
      generalize hN0 : wr.heap.size = N0 at *
      clear hN0 h67
      go_wp2_with fail
      go_loopw [19] (fun s wr2 => ∃ (k : Nat) (xs : List Value), k ≤ l.length ∧ s = .int .i64 (k : Int) ∧ Hid (wr2.ownsRow N0 9 1 (.slice ada l.length cpa) l.length xs) ∧ Hid (wr2.ownsRow w5.heap.size 9 1 (.slice adb l.length cpb) l.length (l.map .string)) ∧ Hid (KpI w b W (.slice adv l.length cpv) l d ws F wr2) ∧ Hid (w5.heap.size ≤ wr2.heap.size)) (fun s _ => l.length - (intOf s).toNat)
      case atStart => exact ⟨0, _, Nat.zero_le _, rfl, HOa7, HOb7, HK7, H67⟩
      case round =>
        obtain ⟨k, xs, hk, rfl, HA2, HB2, HK2, H5⟩ := hrel
        clear HOa7 HOb7 HK7
        by_cases hkl : k < l.length
        · have hki : (k : Int) < (l.length : Int) := by omega
          obtain ⟨ga, hga⟩ : ∃ ga, ada = some ⟨ga, 0, none⟩ := by
            rcases D.own_form HA2.out with ⟨h9, h8⟩ | ⟨g, cap', h9, _⟩
            · omega
            · injection h9 with h9; exact ⟨g, h9⟩
          subst hga
          obtain ⟨cs, hcs⟩ := own_blk HA2.out (k := ga) rfl
          have hgl := HGa.out ga rfl
          obtain ⟨ys, hys⟩ := own_put HA2.out (g := ga) rfl k (.string ⟨#[111, 118, 101, 114]⟩)
          have hx0 : ∃ u, wr.cell? ⟨ga, k, none⟩ = some u := by
            have hlx := HA2.out.1
            have := HA2.out.cells (g := ga) rfl k (xs[k]'(by rw [hlx]; omega)) (List.getElem?_eq_getElem _)
            rw [Addr.add_lit, Nat.zero_add] at this
            exact ⟨_, this⟩
          obtain ⟨u0, x0⟩ := hx0
          have z0 : wr.frozen? ⟨ga, k, none⟩ = false := by unfold World.frozen?; rw [show wr.heap[(⟨ga, k, none⟩ : Addr).block]? = _ from hcs]; simp
          have HY := hide hys
          have hgw := lt_of_block hcs
          have HB3 : Hid ((wr.setCell ⟨ga, k, none⟩ (.string ⟨#[111, 118, 101, 114]⟩)).ownsRow w5.heap.size 9 1 (.slice adb l.length cpb) l.length (l.map .string)) := hide (D.own_keep HB2.out fun j hj => Below.heap_setCell _ _ _ _ (show j ≠ ga by have := (own_lo HB2.out hj).1; omega))
          have HK3 : Hid (KpI w b W (.slice adv l.length cpv) l d ws F (wr.setCell ⟨ga, k, none⟩ (.string ⟨#[111, 118, 101, 114]⟩))) := hide (HK2.out.but (A := .slice (some ⟨ga, 0, none⟩) l.length cpa) (fun g hg => by
            injection hg with hg
            have hg : ga = g := hg
            subst hg
            exact ⟨⟨cs, hcs⟩, fun e => by have := HKv.out ga e; omega⟩) (fun j _ hj => Below.heap_setCell _ _ _ _ (fun e => hj (by rw [e]; rfl))) (HK2.out.bel.setCell (show w.heap.size ≤ ga by omega) _))
          clear HA2 HB2 HK2 hys hcs
          go_wp2_with fail
          go_roundw
          case rel => exact ⟨k + 1, ys, by omega, rfl, HY, HB3, HK3, hide (by rw [D.setCell_size]; exact H5.out)⟩
          case measure => simp only [intOf]; omega
        · have hki : ¬ (k : Int) < (l.length : Int) := by omega
          have hbs := HK2.out.bel.size
          have HAt : Hid (∀ g, (Value.slice ada l.length cpa).ownBlock = some g → (∃ cs, wr.heap[g]? = some (.cells cs 9 (0, 0))) ∧ (Value.slice adv l.length cpv).ownBlock ≠ some g) := hide fun g hg => ⟨own_blk HA2.out hg, fun e => by have h1 := HKv.out g e; have h2 := HGa.out g hg; omega⟩
          have hwr : N0 ≤ wr.heap.size := by have := H5.out; omega
          go_wp2_with (at_builtin; refine wpList_append_own _ rfl _ _ 32 rfl N0 9 iS (.string ByteArray.empty) 1 16 Try.underlying32 hiS zS0 zS1 zS2 rfl (by decide) (.slice ada l.length cpa) l.length _ rfl (HA2.out.alloc _) ⟨wr.heap.size, 0, none⟩ 1 1 [.string ⟨#[109, 111, 114, 101]⟩] rfl rfl (one_new _ _ _) (by intro u hu; simp at hu; subst hu; rfl) (by unfold maxLen; omega) (by omega) (by rw [World.size_alloc]; omega) ?_; intro va wa howna hgrowa hnila; obtain ⟨ad9, cp9, rfl⟩ := D.own_slice howna)
          have HKa : Hid (KpI w b W (.slice adv l.length cpv) l d ws F wa) := hide (HK2.out.but HAt.out (fun j hj hn => (hgrowa.block j (by rw [World.size_alloc]; omega) (Ne.symm hn)).trans (Below.heap_alloc _ _ _ hj)) ((HK2.out.bel.alloc hbs _).grown hgrowa (by rw [World.size_alloc]; omega) (fun j hj => by have := (HGa.out j hj).1; omega)))
          have HBa : Hid (wa.ownsRow w5.heap.size 9 1 (.slice adb l.length cpb) l.length (l.map .string)) := hide (D.own_keep HB2.out fun j hj => (hgrowa.block j (by rw [World.size_alloc]; have := (own_lo HB2.out hj).2; omega) (fun e => by have h1 := (own_lo HB2.out hj).1; have h2 := (HGa.out j e.symm).2; omega)).trans (Below.heap_alloc _ _ _ (own_lo HB2.out hj).2))
          have HOc := hide (open_any HKa.out.dk)
          clear howna hgrowa hnila HA2 HB2 HK2 HAt
          refine HOc.out.mono ?_
          intro e w10 hP
          obtain ⟨hB10, Wc, adc, cpc, rfl, -, -, hOc, -⟩ := HKa.out.con.opens hP
          have HK10 := hide (HKa.out.below hB10)
          obtain ⟨-, rb, hRb⟩ := D.Rs.own (D.own_keep HBa.out fun j hj => hB10.block j (own_lo HBa.out hj).2)
          obtain ⟨-, rc, hRc⟩ := D.Rs.own hOc
          obtain ⟨-, rv, hRv⟩ := D.Rs.own HK10.out.own
          have HS1 := hide (D.same_true (cap := cpb) (cap' := cpv) hRb hRv (by omega))
          have HRc := hide hRc
          have HRv := hide hRv
          clear hP hB10 hOc hRb hRc hRv HOc HKa HBa
          go_wp2_with fail
          refine HS1.out.mono ?_
          rintro e w11 ⟨rfl, n1, rfl⟩
          have HS2 := hide (D.same_true (cap := cpc) (cap' := cpv) (HRc.out.below (D.below_drewN w10 n1)) (HRv.out.below (D.below_drewN w10 n1)) (by omega))
          have HK11 := hide (HK10.out.below (D.below_drewN w10 n1))
          generalize w10.drewN n1 = w11 at *
          clear HS1 HK10 HRc HRv
          go_wp2_with fail
          refine HS2.out.mono ?_
          rintro e w12 ⟨rfl, n2, rfl⟩
          have HK12 := hide (HK11.out.below (D.below_drewN w11 n2))
          generalize w11.drewN n2 = w12 at *
          have HRec := hide (records_any HK12.out.wm)
          rw [HK12.out.con.rc] at HRec
          clear HS2 HK11
          go_wp2_with fail
          refine HRec.out.mono ?_
          rintro e w13 ⟨rfl, rfl⟩
          have HB12 := hide HK12.out.bel
          clear HRec HK12
          go_wp2_with fail
          refine (fixed_any _).mono ?_
          rintro e w14 ⟨rfl, hB14⟩
          have HB14 := hide (HB12.out.trans (hB14.mono HB12.out.size))
          clear hB14
          go_wp2_with fail
          go_ret
          exact ⟨rfl, HB14.out⟩
end Go.Proofs.Ytdjmmgpdladpcaa
end
