import Derived.Test.YteckkaapibbpcaaChM
namespace Go.Proofs.Yteckkaapibbpcaa
open Go.RowKit

theorem Try.infoPl : (Try.prog.info? 23).map (fun i => (i.zero, i.size, i.bytes)) = some (some (.pointer none), 1, 8) := by kernel_rfl
theorem Try.infoPa : (Try.prog.info? 27).map (fun i => (i.zero, i.size, i.bytes)) = some (some (.pointer none), 1, 8) := by kernel_rfl
theorem Mm.eqD {B : Nat} {w w1 : World} {vl va : Value} {L : List Pr} {m : Nat} (h : Mm B w vl va L) (e : w1 = w.drewN m) : Mm B w1 vl va L := by
  rw [e]
  exact h.below (below_drewN (Below.refl _ w) m)
theorem cells_of {B : Nat} {w : World} {gl cl ga ca n k : Nat} {L : List Pr} {p p' : Pr} (h : Mm B w (.slice (some ⟨gl, 0, none⟩) n cl) (.slice (some ⟨ga, 0, none⟩) n ca) L) (hk : L[k]? = some p') (hb : p'.b = p.b) (hx : p'.x = p.x) : w.cell? ⟨gl, k, none⟩ = some (.pointer (some ⟨p.b, 0, none⟩)) ∧ w.cell? ⟨ga, k, none⟩ = some (.pointer (some ⟨p.x, 0, none⟩)) := by
  have hn : n = L.length := by
    have h0 : 0 < L.length := by have := (List.getElem?_eq_some_iff.mp hk).1; omega
    obtain ⟨g, c, h1⟩ := h.formL h0
    injection h1
  subst hn
  rw [← hb, ← hx]
  exact ⟨h.cl hk, h.ca hk⟩
theorem last_cell {w : World} {B n g cap : Nat} {xs : List Value} {v : Value} (h : w.ownsRow B 23 1 (.slice (some ⟨g, 0, none⟩) (n + 1) cap) (n + 1) (xs ++ [v])) : w.cell? ⟨g, n, none⟩ = some v := by
  have hl : xs.length = n := by have := h.1; simp at this; omega
  have e1 := h.cells (g := g) rfl n v (by rw [List.getElem?_append_right (by omega), hl]; simp)
  rw [Addr.add_lit, Nat.zero_add] at e1
  exact e1
/-- what a region reads -/
def Sx (gl ga ab ao i k : Nat) (p : Pr) (q : Oc) (w' : World) : Prop := w'.cell? ⟨gl, k, none⟩ = some (.pointer (some ⟨p.b, 0, none⟩)) ∧ w'.cell? ⟨ga, k, none⟩ = some (.pointer (some ⟨p.x, 0, none⟩)) ∧ w'.cell? ⟨ab, ao + i * 4, none⟩ = some (.int .i64 q.k) ∧ w'.cell? ⟨ab, ao + i * 4 + 1, none⟩ = some (.int .i64 q.on) ∧ w'.cell? ⟨ab, ao + i * 4 + 2, none⟩ = some (.int .i64 q.n) ∧ w'.cell? ⟨ab, ao + i * 4 + 3, none⟩ = some (.string q.tx)
theorem SS2 {gl ga ab ao i k m : Nat} {p : Pr} {q : Oc} {w w' : World} (e : w' = w.drewN m) (h : Sx gl ga ab ao i k p q w) : Sx gl ga ab ao i k p q w' := by rw [e]; exact h
set_option maxHeartbeats 16000000 in
set_option maxRecDepth 8000 in
theorem chunksCalls_walk {w : World} {x : Int} (hx : -9223372036854775808 ≤ x ∧ x ≤ 9223372036854775807) {y : Int} (hy : -9223372036854775808 ≤ y ∧ y ≤ 9223372036854775807) {ad : Option Addr} {ab ao cap : Nat} {Q : List Oc} (hQ : Sr Oc.cs 4 w ad ab ao Q) (hQl : Q.length ≤ 3518437208780) (hQb : ∀ i (h : i < Q.length), I6 (Q[i]).on ∧ I6 (Q[i]).n) :
    Calls Try.prog 3 #[.int .i64 x, .int .i64 y, .slice ad Q.length cap] w fun e w' => e = .returned (.bool true) ∧ Below w.heap.size w w' := by
  have HQ := hide hQ
  have HQB := hide hQb
  have HN := hide (snew_any w hx hy)
  have HNr : Hid (∀ w1, Calls Try.prog 7 #[.int .i64 x, .int .i64 y] w1 (RNP x y w1)) := hide fun w1 => rnew_any w1 hx hy
  clear hQ hQb
  have HX6 := hide (And.intro hx hy)
  clear hx hy
  obtain ⟨iL, hiL, zL0, zL1, zL2⟩ := info_parts Try.infoPl
  obtain ⟨iA, hiA, zA0, zA1, zA2⟩ := info_parts Try.infoPa
  go_enter Try.func3, Try.ntmps3
  go_wp2_with fail
  refine HN.out.mono ?_
  rintro e w1 (⟨h, rfl, hw⟩ | ⟨h, rfl, hS1, hB1⟩)
  · subst hw
    clear HN
    go_wp2_with fail
    refine (HNr.out _).mono ?_
    rintro e w2 (⟨_, rfl, hw⟩ | ⟨hy, _⟩)
    · subst hw
      go_wp2_with fail
      refine (awake_any _).mono ?_
      rintro e w3 ⟨rfl, hB3⟩
      go_wp2_with fail
      go_ret
      exact ⟨rfl, hB3⟩
    · exact absurd hy h
  obtain ⟨bb, hbb⟩ : ∃ bb, w.heap.size = bb := ⟨_, rfl⟩
  rw [show Value.pointer (some ⟨w.heap.size, 0, none⟩) = Value.pointer (some ⟨bb, 0, none⟩) by rw [hbb]]
  have HL : Hid (w.heap.size ≤ bb) := hide (by omega)
  rw [hbb] at hS1
  have HS := hide hS1
  have HB := hide hB1
  clear HN hbb hS1 hB1
  go_wp2_with fail
  refine (HNr.out _).mono ?_
  rintro e w2 (⟨hn, _⟩ | ⟨_, rfl, hR2, hB2⟩)
  · exact absurd h hn
  have HS := hide (HS.out.below hB2)
  obtain ⟨xx, hxx⟩ : ∃ xx, w1.heap.size = xx := ⟨_, rfl⟩
  rw [show Value.pointer (some ⟨w1.heap.size, 0, none⟩) = Value.pointer (some ⟨xx, 0, none⟩) by rw [hxx]]
  have HLx : Hid (w.heap.size ≤ xx) := hide (by have := HB.out.size; omega)
  have HB := hide (HB.out.trans (hB2.mono HB.out.size))
  rw [hxx] at hR2
  have HR := hide hR2
  clear hxx hR2 hB2 HNr
  go_wp2_with fail
  refine (awake_any _).mono ?_
  rintro e w3 ⟨rfl, hB3⟩
  have HS := hide (HS.out.below hB3)
  have HR := hide (HR.out.below hB3)
  have HB := hide (HB.out.trans (hB3.mono HB.out.size))
  clear hB3
  have hbs := HB.out.size
  have HM : Hid (Mm w.heap.size ((w3.alloc (.cells #[.pointer (some ⟨bb, 0, none⟩)] 23)).alloc (.cells #[.pointer (some ⟨xx, 0, none⟩)] 27)) (.slice (some ⟨w3.heap.size, 0, none⟩) 1 1) (.slice (some ⟨w3.heap.size + 1, 0, none⟩) 1 1) [⟨bb, xx, newS x.toNat y.toNat, [], none, 0, 0, 0, none, 0, 0, 0⟩] ∧ Below w.heap.size w ((w3.alloc (.cells #[.pointer (some ⟨bb, 0, none⟩)] 23)).alloc (.cells #[.pointer (some ⟨xx, 0, none⟩)] 27))) := hide (by
    obtain ⟨m1, m2, m3, m4⟩ := h
    have s1 := World.size_alloc w3 (.cells #[.pointer (some ⟨bb, 0, none⟩)] 23)
    have hb1 := below_alloc w3 (.cells #[.pointer (some ⟨bb, 0, none⟩)] 23)
    have hb2 := below_alloc (w3.alloc (.cells #[.pointer (some ⟨bb, 0, none⟩)] 23)) (.cells #[.pointer (some ⟨xx, 0, none⟩)] 27)
    have hb : Below w3.heap.size w3 ((w3.alloc (.cells #[.pointer (some ⟨bb, 0, none⟩)] 23)).alloc (.cells #[.pointer (some ⟨xx, 0, none⟩)] 27)) := hb1.trans (hb2.mono hb1.size)
    have g1 := (hb2.block w3.heap.size (by rw [s1]; omega)).trans (heap_alloc_new w3 _)
    have g2 := heap_alloc_new (w3.alloc (.cells #[.pointer (some ⟨bb, 0, none⟩)] 23)) (.cells #[.pointer (some ⟨xx, 0, none⟩)] 27)
    rw [s1] at g2
    refine ⟨⟨⟨rfl, .inr ⟨w3.heap.size, 1, _, rfl, hbs, g1, Nat.le_refl _, by unfold maxLen; omega, rfl, rfl⟩⟩, ⟨rfl, .inr ⟨w3.heap.size + 1, 1, _, rfl, by omega, g2, Nat.le_refl _, by unfold maxLen; omega, rfl, rfl⟩⟩, ⟨fun i p hi => ?_, fun i j p q hij hi hj => ?_⟩⟩, HB.out.trans (hb.mono hbs)⟩
    · have e0 : i = 0 := by
        have := (List.getElem?_eq_some_iff.mp hi).1
        simp at this
        omega
      subst e0
      simp at hi
      subst hi
      exact ⟨newS_ok (by omega) (by omega) (by omega) (by omega), HS.out.below hb, HR.out.below hb, HL.out, HLx.out, fun h0 => absurd h0 (Nat.lt_irrefl 0), fun h0 => absurd h0 (Nat.lt_irrefl 0)⟩
    · have e0 := (List.getElem?_eq_some_iff.mp hi).1
      have e1 := (List.getElem?_eq_some_iff.mp hj).1
      simp at e0 e1
      omega)
  clear HS HR HL HLx HB h
  go_wp2_with fail
  generalize (w3.alloc (.cells #[.pointer (some ⟨bb, 0, none⟩)] 23)).alloc (.cells #[.pointer (some ⟨xx, 0, none⟩)] 27) = W0 at *
  go_loopw [11, 12, 13, 14, 15] (fun vl va t _ _ wr => ∃ (i : Nat) (L : List Pr), i ≤ Q.length ∧ t = .int .i64 (i : Int) ∧ 0 < L.length ∧ L.length ≤ i + 1 ∧ Hid (Mm w.heap.size wr vl va L ∧ Below w.heap.size w wr)) (fun _ _ t _ _ _ => Q.length - (intOf t).toNat)
  case atStart => exact ⟨0, _, Nat.zero_le _, rfl, by simp, by simp, HM⟩
  case round =>
    clear HM
    obtain ⟨i, L, hi, rfl, hL0, hL1, HMB⟩ := hrel
    have HM := hide HMB.out.1
    have HB := hide HMB.out.2
    clear HMB
    obtain ⟨gl, cl, hvl⟩ := HM.out.formL hL0
    subst hvl
    obtain ⟨ga, ca, hva⟩ := HM.out.formA hL0
    subst hva
    by_cases hiq : i < Q.length
    · have hii : (i : Int) < (Q.length : Int) := by omega
      have hat := HQ.out.at_ (by omega)
      subst hat
      have HRd : Hid (∀ V, Below w.heap.size w V → V.cell? ⟨ab, ao + i * 4, none⟩ = some (.int .i64 (Q[i]).k) ∧ V.cell? ⟨ab, ao + i * 4 + 1, none⟩ = some (.int .i64 (Q[i]).on) ∧ V.cell? ⟨ab, ao + i * 4 + 2, none⟩ = some (.int .i64 (Q[i]).n) ∧ V.cell? ⟨ab, ao + i * 4 + 3, none⟩ = some (.string (Q[i]).tx)) := hide fun V hV => (HQ.out.below (by decide) Oc.cs0 hV).four hiq
      have hlt : ab < wr.heap.size := Nat.lt_of_lt_of_le (HQ.out.lt (by omega) (by decide) Oc.cs0) HB.out.size
      obtain ⟨q0, q1, q2, q3⟩ := HRd.out _ HB.out
      have HBO := hide (HQB.out i hiq)
      generalize Q[i] = q at *
      have ht1 : q.on.tmod (L.length : Int) < (L.length : Int) := Int.tmod_lt_of_pos _ (by omega)
      have ht2 : -(L.length : Int) < q.on.tmod (L.length : Int) := Int.lt_tmod_of_pos _ (by omega)
      have hL0i : (L.length : Int) ≠ 0 := by omega
      have hL1i : (L.length : Int) ≠ -1 := by omega
      go_upto_region 13 with fail
      generalize q.on.tmod (L.length : Int) = t at *
      go_upto_if 64 with fail
      go_cut [14] (fun u14 wc => ∃ k : Nat, u14 = .int .i64 (k : Int) ∧ k < L.length ∧ wc = wr)
      case first =>
        by_cases h0 : t < 0
        · go_wp2_with fail
          go_meet
          case rel => exact ⟨(t + (L.length : Int)).toNat, by congr 1; omega, by omega, rfl⟩
        · go_wp2_with fail
          go_meet
          case rel => exact ⟨t.toNat, by congr 1; omega, by omega, rfl⟩
      case rest =>
        obtain ⟨k, rfl, hk, hwc⟩ := hcut
        subst hwc
        clear ht1 ht2 hL0i hL1i
        obtain ⟨p, hp⟩ : ∃ p, L[k]? = some p := ⟨_, List.getElem?_eq_getElem hk⟩
        have m0 := HM.out.cl hp
        have m1 := HM.out.ca hp
        have HK := hide hp
        clear hp
        by_cases hk5 : q.k = 5
        · have e5 : (q.k == 5) = true := by simpa using hk5
          clear hk5
          have hone := HM.out.kp.one k p HK.out
          have r0 := hone.rb.c0
          have r1 := hone.rb.c1
          have r2 := hone.rb.c2
          have r3 := hone.rb.c3
          have r4 := hone.rb.c4
          have r5 := hone.rb.c5
          have hxl := hone.rb.lt
          have hgl := (HM.out.rl.lt gl rfl).2
          have hga := (HM.out.ra.lt ga rfl).2
          have HM4 := hide (HM.out.below (below_alloc wc (.cells (dcs p.s p.T.length p.adx p.capx) 37)))
          have HB4 := hide (HB.out.alloc HB.out.size (.cells (dcs p.s p.T.length p.adx p.capx) 37))
          have HX4 : Hid ((wc.alloc (.cells (dcs p.s p.T.length p.adx p.capx) 37)).heap[wc.heap.size]? = some (.cells (dcs p.s p.T.length p.adx p.capx) 37 (0, 0))) := hide (heap_alloc_new wc _)
          have HO4 := hide (HM4.out.kp.one k p HK.out)
          have HNb : Hid (∀ (i : Nat) q, L[i]? = some q → q.b < wc.heap.size ∧ q.x < wc.heap.size) := hide fun i q hq => ⟨(HM.out.kp.one i q hq).sb.lt, (HM.out.kp.one i q hq).rb.lt⟩
          have hbc := HB.out.size
          have hs4 : (wc.alloc (.cells (dcs p.s p.T.length p.adx p.capx) 37)).heap.size = wc.heap.size + 1 := World.size_alloc wc _
          have HCl := hide (sclone_any HO4.out.ok.l HO4.out.sb)
          rw [hs4] at HCl
          clear hone
          unfold dcs at HM4 HB4 HX4 HO4 HCl hs4
          obtain ⟨x', hx'⟩ : ∃ x', wc.heap.size = x' := ⟨_, rfl⟩
          rw [hx'] at HX4 HNb HCl hbc hxl hgl hga hlt hs4
          go_wp2_with fail
          refine HCl.out.mono ?_
          rintro e w5 ⟨rfl, ⟨ad', hS5⟩, hB5⟩
          have hsz5 := hB5.size
          have HM5 := hide (HM4.out.below (hB5.mono (by rw [hs4]; exact Nat.le_refl _)))
          have HB5 := hide (HB4.out.trans (hB5.mono (by omega)))
          have hX5 := (hB5.block x' (by omega)).trans HX4.out
          have hO5 := HM5.out.kp.one k p HK.out
          have hK5 := HM5.out.kp.push HK.out hS5 (show Rb w5 x' p.s p.T p.adx p.capx p.Xx p.ox from ⟨hX5, hO5.rb.rs, hO5.rb.hi⟩) (by omega) (by omega) (fun i q hq => by have := HNb.out i q hq; omega)
          obtain ⟨b', hb'⟩ : ∃ b', x' + 1 = b' := ⟨_, rfl⟩
          rw [show Value.pointer (some ⟨x' + 1, 0, none⟩) = Value.pointer (some ⟨b', 0, none⟩) by rw [hb']]
          rw [hb'] at hK5
          have HK5 := hide hK5
          obtain ⟨p1, hp1⟩ : ∃ p1, (⟨b', x', p.s, p.T, ad', p.s.R.length, p.X, p.o, p.adx, p.capx, p.Xx, p.ox⟩ : Pr) = p1 := ⟨_, rfl⟩
          have HPb : Hid (pbs (L ++ [p1]) = pbs L ++ [.pointer (some ⟨b', 0, none⟩)]) := hide (by unfold pbs; rw [List.map_append, ← hp1]; rfl)
          have HPx : Hid (pxs (L ++ [p1]) = pxs L ++ [.pointer (some ⟨x', 0, none⟩)]) := hide (by unfold pxs; rw [List.map_append, ← hp1]; rfl)
          rw [hp1] at HK5
          have HRl5 : Hid ((w5.alloc (.cells #[.pointer (some ⟨b', 0, none⟩)] 23)).ownsRow w.heap.size 23 1 (.slice (some ⟨gl, 0, none⟩) L.length cl) L.length (pbs L)) := hide (own_below HM5.out.rl (below_alloc w5 _))
          have HRa5 : Hid ((w5.alloc (.cells #[.pointer (some ⟨b', 0, none⟩)] 23)).ownsRow w.heap.size 27 1 (.slice (some ⟨ga, 0, none⟩) L.length ca) L.length (pxs L)) := hide (own_below HM5.out.ra (below_alloc w5 _))
          have HK6 := hide (HK5.out.below (below_alloc w5 (.cells #[.pointer (some ⟨b', 0, none⟩)] 23)))
          have hb5 := HB5.out.size
          have HB6 := hide (HB5.out.alloc hb5 (.cells #[.pointer (some ⟨b', 0, none⟩)] 23))
          have hLb : L.length ≤ 3518437208781 := by omega
          clear hS5 hB5 hX5 hO5 hK5 hp1 hb' HCl HM4 HB4 HX4 HO4 hs4 r0 r1 r2 r3 r4 r5 m0 m1 HNb hx' HK5 HM5
          go_wp2_with (first
            | (at_builtin; refine wpList_append_lies _ rfl (.tmp 81) (.tmp 87) 31 rfl w.heap.size 23 iL (.pointer none) 1 8 Try.underlying31 hiL zL0 zL1 zL2 rfl (by decide) (.slice (some ⟨gl, 0, none⟩) L.length cl) L.length (pbs L) rfl HRl5.out ⟨w5.heap.size, 0, none⟩ 1 1 [.pointer (some ⟨b', 0, none⟩)] rfl rfl (one_new _ _ _) (by intro u hu; simp at hu; subst hu; rfl) (by decide) (by unfold maxLen; omega) (by omega) (by rw [World.size_alloc]; omega) _ rfl ?_; intro g7 cap7 w7 hown7 hgr7 hat7 hlt7; have HRl7 := hide hown7; have HRa7 := hide (own_grown HRa5.out hgr7 HRl5.out (by decide)); have HK7 := hide (HK6.out.grown hgr7 HRl5.out (by decide) (by decide) (by decide)); have HB7 := hide (HB6.out.grown hgr7 (by rw [World.size_alloc]; omega) (fun k hk => (HRl5.out.lt k hk).1)); have hb7 := HB7.out.size; have HRa8 : Hid ((w7.alloc (.cells #[.pointer (some ⟨x', 0, none⟩)] 27)).ownsRow w.heap.size 27 1 (.slice (some ⟨ga, 0, none⟩) L.length ca) L.length (pxs L)) := hide (own_below HRa7.out (below_alloc w7 _)); have HRl8 : Hid ((w7.alloc (.cells #[.pointer (some ⟨x', 0, none⟩)] 27)).ownsRow w.heap.size 23 1 (.slice (some ⟨g7, 0, none⟩) (L.length + 1) cap7) (L.length + 1) (pbs L ++ [.pointer (some ⟨b', 0, none⟩)])) := hide (own_below HRl7.out (below_alloc w7 _)); have HK8 := hide (HK7.out.below (below_alloc w7 (.cells #[.pointer (some ⟨x', 0, none⟩)] 27))); have HB8 := hide (HB7.out.alloc hb7 (.cells #[.pointer (some ⟨x', 0, none⟩)] 27)); clear hown7 hgr7 hat7 hlt7)
            | (at_builtin; refine wpList_append_lies _ rfl (.tmp 89) (.tmp 90) 32 rfl w.heap.size 27 iA (.pointer none) 1 8 Try.underlying32 hiA zA0 zA1 zA2 rfl (by decide) (.slice (some ⟨ga, 0, none⟩) L.length ca) L.length (pxs L) rfl HRa8.out ⟨w7.heap.size, 0, none⟩ 1 1 [.pointer (some ⟨x', 0, none⟩)] rfl rfl (one_new _ _ _) (by intro u hu; simp at hu; subst hu; rfl) (by decide) (by unfold maxLen; omega) (by omega) (by rw [World.size_alloc]; omega) _ rfl ?_; intro g9 cap9 w9 hown9 hgr9 hat9 hlt9; have HRa9 := hide hown9; have HRl9 := hide (own_grown HRl8.out hgr9 HRa8.out (by decide)); have HK9 := hide (HK8.out.grown hgr9 HRa8.out (by decide) (by decide) (by decide)); have HB9 := hide (HB8.out.grown hgr9 (by rw [World.size_alloc]; omega) (fun k hk => (HRa8.out.lt k hk).1)); have y9 := last_cell HRl9.out; have hg9 := (HRl9.out.lt g7 rfl).2; have HM9 : Hid (Mm w.heap.size w9 (.slice (some ⟨g7, 0, none⟩) (L ++ [p1]).length cap7) (.slice (some ⟨g9, 0, none⟩) (L ++ [p1]).length cap9) (L ++ [p1])) := hide (by rw [show (L ++ [p1]).length = L.length + 1 by simp]; exact ⟨by rw [show (L ++ [p1]).length = L.length + 1 by simp, HPb.out]; exact HRl9.out, by rw [show (L ++ [p1]).length = L.length + 1 by simp, HPx.out]; exact HRa9.out, HK9.out⟩); clear hown9 hgr9 hat9 hlt9))
          go_roundw
          case rel => exact ⟨i + 1, L ++ [p1], by omega, by go_num, by simp, by simp; omega, hide ⟨by have := HM9.out; rw [show (L ++ [p1]).length = L.length + 1 by simp] at this; exact this, HB9.out⟩⟩
          case measure => simp only [intOf]; omega
        · have e5 : (q.k == 5) = false := by simpa using hk5
          clear hk5
          go_upto_region 21 with fail
          have HS0 : Hid (Sx gl ga ab ao i k p q wc.drew) := hide ⟨m0, m1, q0, q1, q2, q3⟩
          have HM := hide (HM.out.below (below_drew (Below.refl _ wc)))
          have HB := hide (below_drew HB.out)
          have HSS : Hid (∀ V p', Mm w.heap.size V (.slice (some ⟨gl, 0, none⟩) L.length cl) (.slice (some ⟨ga, 0, none⟩) L.length ca) (L.set k p') → Below w.heap.size w V → (L.set k p').length = L.length → (L.set k p')[k]? = some p' → p'.b = p.b → p'.x = p.x → Sx gl ga ab ao i k p q V) := hide fun V p' hV hbV _ hk2 hb2 hx2 => by
            obtain ⟨c0, c1⟩ := cells_of hV hk2 hb2 hx2
            obtain ⟨c2, c3, c4, c5⟩ := HRd.out _ hbV
            exact ⟨c0, c1, c2, c3, c4, c5⟩
          clear q0 q1 q2 q3 m0 m1
          unfold Sx at HS0 HSS
          refine wp_region_held_drew (S := fun w' => w'.cell? ⟨gl, k, none⟩ = some (.pointer (some ⟨p.b, 0, none⟩)) ∧ w'.cell? ⟨ga, k, none⟩ = some (.pointer (some ⟨p.x, 0, none⟩)) ∧ w'.cell? ⟨ab, ao + i * 4, none⟩ = some (.int .i64 q.k) ∧ w'.cell? ⟨ab, ao + i * 4 + 1, none⟩ = some (.int .i64 q.on) ∧ w'.cell? ⟨ab, ao + i * 4 + 2, none⟩ = some (.int .i64 q.n) ∧ w'.cell? ⟨ab, ao + i * 4 + 3, none⟩ = some (.string q.tx)) (by kernel_rfl) (HS0.out) (fun hHeld => ?_)
          refine wpAnyH_take (i := 0) (v := .slice (some ⟨gl, 0, none⟩) L.length cl) rfl (by kernel_rfl) (by kernel_rfl) (by kernel_rfl) (fun _ _ _ h => h) (Or.inl ⟨by kernel_rfl, fun w1 hSw => by clear hHeld; obtain ⟨k0, k1, k2, k3, k4, k5⟩ := hSw; go_simp⟩) hHeld ?_
          try simp only [Act.put]
          try simp only [List.getElem_toArray]
          try simp only [List.getElem_cons_succ]
          try simp only [List.getElem_cons_zero]
          try simp only [List.setIfInBounds_toArray]
          try simp only [List.set_cons_succ, List.set_cons_zero]
          refine wpAnyH_take (i := 1) (v := .int .i64 (k : Int)) rfl (by kernel_rfl) (by kernel_rfl) (by kernel_rfl) (fun _ _ _ h => h) (Or.inl ⟨by kernel_rfl, fun w1 hSw => by clear hHeld; obtain ⟨k0, k1, k2, k3, k4, k5⟩ := hSw; go_simp⟩) hHeld ?_
          try simp only [Act.put]
          try simp only [List.getElem_toArray]
          try simp only [List.getElem_cons_succ]
          try simp only [List.getElem_cons_zero]
          try simp only [List.setIfInBounds_toArray]
          try simp only [List.set_cons_succ, List.set_cons_zero]
          refine wpAnyH_take (i := 2) (v := .pointer (some ⟨gl, k, none⟩)) rfl (by kernel_rfl) (by kernel_rfl) (by kernel_rfl) (fun _ _ _ h => h) (Or.inl ⟨by kernel_rfl, fun w1 hSw => by clear hHeld; obtain ⟨k0, k1, k2, k3, k4, k5⟩ := hSw; go_simp⟩) hHeld ?_
          try simp only [Act.put]
          try simp only [List.getElem_toArray]
          try simp only [List.getElem_cons_succ]
          try simp only [List.getElem_cons_zero]
          try simp only [List.setIfInBounds_toArray]
          try simp only [List.set_cons_succ, List.set_cons_zero]
          refine wpAnyH_take (i := 3) (v := .pointer (some ⟨p.b, 0, none⟩)) rfl (by kernel_rfl) (by kernel_rfl) (by kernel_rfl) (fun _ _ _ h => h) (Or.inl ⟨by kernel_rfl, fun w1 hSw => by clear hHeld; obtain ⟨k0, k1, k2, k3, k4, k5⟩ := hSw; go_simp⟩) hHeld ?_
          try simp only [Act.put]
          try simp only [List.getElem_toArray]
          try simp only [List.getElem_cons_succ]
          try simp only [List.getElem_cons_zero]
          try simp only [List.setIfInBounds_toArray]
          try simp only [List.set_cons_succ, List.set_cons_zero]
          refine wpAnyH_take (i := 4) (v := .slice (some ⟨ga, 0, none⟩) L.length ca) rfl (by kernel_rfl) (by kernel_rfl) (by kernel_rfl) (fun _ _ _ h => h) (Or.inl ⟨by kernel_rfl, fun w1 hSw => by clear hHeld; obtain ⟨k0, k1, k2, k3, k4, k5⟩ := hSw; go_simp⟩) hHeld ?_
          try simp only [Act.put]
          try simp only [List.getElem_toArray]
          try simp only [List.getElem_cons_succ]
          try simp only [List.getElem_cons_zero]
          try simp only [List.setIfInBounds_toArray]
          try simp only [List.set_cons_succ, List.set_cons_zero]
          refine wpAnyH_take (i := 5) (v := .int .i64 (k : Int)) rfl (by kernel_rfl) (by kernel_rfl) (by kernel_rfl) (fun _ _ _ h => h) (Or.inl ⟨by kernel_rfl, fun w1 hSw => by clear hHeld; obtain ⟨k0, k1, k2, k3, k4, k5⟩ := hSw; go_simp⟩) hHeld ?_
          try simp only [Act.put]
          try simp only [List.getElem_toArray]
          try simp only [List.getElem_cons_succ]
          try simp only [List.getElem_cons_zero]
          try simp only [List.setIfInBounds_toArray]
          try simp only [List.set_cons_succ, List.set_cons_zero]
          refine wpAnyH_take (i := 6) (v := .pointer (some ⟨ga, k, none⟩)) rfl (by kernel_rfl) (by kernel_rfl) (by kernel_rfl) (fun _ _ _ h => h) (Or.inl ⟨by kernel_rfl, fun w1 hSw => by clear hHeld; obtain ⟨k0, k1, k2, k3, k4, k5⟩ := hSw; go_simp⟩) hHeld ?_
          try simp only [Act.put]
          try simp only [List.getElem_toArray]
          try simp only [List.getElem_cons_succ]
          try simp only [List.getElem_cons_zero]
          try simp only [List.setIfInBounds_toArray]
          try simp only [List.set_cons_succ, List.set_cons_zero]
          refine wpAnyH_take (i := 7) (v := .pointer (some ⟨p.x, 0, none⟩)) rfl (by kernel_rfl) (by kernel_rfl) (by kernel_rfl) (fun _ _ _ h => h) (Or.inl ⟨by kernel_rfl, fun w1 hSw => by clear hHeld; obtain ⟨k0, k1, k2, k3, k4, k5⟩ := hSw; go_simp⟩) hHeld ?_
          try simp only [Act.put]
          try simp only [List.getElem_toArray]
          try simp only [List.getElem_cons_succ]
          try simp only [List.getElem_cons_zero]
          try simp only [List.setIfInBounds_toArray]
          try simp only [List.set_cons_succ, List.set_cons_zero]
          refine wpAnyH_take (i := 8) (v := .slice (some ⟨ab, ao, none⟩) Q.length cap) rfl (by kernel_rfl) (by kernel_rfl) (by kernel_rfl) (fun _ _ _ h => h) (Or.inl ⟨by kernel_rfl, fun w1 hSw => by clear hHeld; obtain ⟨k0, k1, k2, k3, k4, k5⟩ := hSw; go_simp⟩) hHeld ?_
          try simp only [Act.put]
          try simp only [List.getElem_toArray]
          try simp only [List.getElem_cons_succ]
          try simp only [List.getElem_cons_zero]
          try simp only [List.setIfInBounds_toArray]
          try simp only [List.set_cons_succ, List.set_cons_zero]
          refine wpAnyH_take (i := 9) (v := .int .i64 (i : Int)) rfl (by kernel_rfl) (by kernel_rfl) (by kernel_rfl) (fun _ _ _ h => h) (Or.inl ⟨by kernel_rfl, fun w1 hSw => by clear hHeld; obtain ⟨k0, k1, k2, k3, k4, k5⟩ := hSw; go_simp⟩) hHeld ?_
          try simp only [Act.put]
          try simp only [List.getElem_toArray]
          try simp only [List.getElem_cons_succ]
          try simp only [List.getElem_cons_zero]
          try simp only [List.setIfInBounds_toArray]
          try simp only [List.set_cons_succ, List.set_cons_zero]
          refine wpAnyH_take (i := 10) (v := .pointer (some ⟨ab, ao + i * 4, none⟩)) rfl (by kernel_rfl) (by kernel_rfl) (by kernel_rfl) (fun _ _ _ h => h) (Or.inl ⟨by kernel_rfl, fun w1 hSw => by clear hHeld; obtain ⟨k0, k1, k2, k3, k4, k5⟩ := hSw; go_simp⟩) hHeld ?_
          try simp only [Act.put]
          try simp only [List.getElem_toArray]
          try simp only [List.getElem_cons_succ]
          try simp only [List.getElem_cons_zero]
          try simp only [List.setIfInBounds_toArray]
          try simp only [List.set_cons_succ, List.set_cons_zero]
          refine wpAnyH_take (i := 11) (v := .agg #[.int .i64 q.k, .int .i64 q.on, .int .i64 q.n, .string q.tx]) rfl (by kernel_rfl) (by kernel_rfl) (by kernel_rfl) (fun _ _ _ h => h) (Or.inl ⟨by kernel_rfl, fun w1 hSw => by clear hHeld; obtain ⟨k0, k1, k2, k3, k4, k5⟩ := hSw; go_simp⟩) hHeld ?_
          try simp only [Act.put]
          try simp only [List.getElem_toArray]
          try simp only [List.getElem_cons_succ]
          try simp only [List.getElem_cons_zero]
          try simp only [List.setIfInBounds_toArray]
          try simp only [List.set_cons_succ, List.set_cons_zero]
          refine wpAnyH_ready (rs := [12]) (by kernel_rfl) (by simp) ?_
          refine AllReadyH.cons rfl (fun K hK => ?_) AllReadyH.nil
          go_simp
          refine (does_any (HM.out.kp.one k p HK.out) ⟨q.k, q.on, q.n, q.tx⟩ HBO.out.2).mono ?_
          rintro e V1 ⟨rfl, p', hp1, hp2, hp3⟩
          have HM1 := hide (HM.out.step HK.out hp1 hp2 hp3)
          have HB1 := hide (HB.out.trans (hp2.below (HM.out.kp.one k p HK.out) HB.out.size))
          have HP1 := hide hp1
          have hxb := hp3.b
          have hxx := hp3.x
          have HS1 := hide (HSS.out V1 _ HM1.out HB1.out (by simp) (List.getElem?_set_self (List.getElem?_eq_some_iff.mp HK.out).1) hxb hxx)
          have HXb := hide hxb
          have HXx := hide hxx
          clear hp1 hp2 hp3 hxb hxx
          refine hK.out _ _ (HS1.out) (fun hHeld => ?_)
          clear hK K
          try simp only [Act.put]
          try simp only [List.getElem_toArray]
          try simp only [List.getElem_cons_succ]
          try simp only [List.getElem_cons_zero]
          try simp only [List.setIfInBounds_toArray]
          try simp only [List.set_cons_succ, List.set_cons_zero]
          refine wpAnyH_take (i := 13) (v := .bool false) rfl (by kernel_rfl) (by kernel_rfl) (by kernel_rfl) (fun _ _ _ h => h) (Or.inl ⟨by kernel_rfl, fun w1 hSw => by clear hHeld; obtain ⟨k0, k1, k2, k3, k4, k5⟩ := hSw; go_simp⟩) hHeld ?_
          try simp only [Act.put]
          try simp only [List.getElem_toArray]
          try simp only [List.getElem_cons_succ]
          try simp only [List.getElem_cons_zero]
          try simp only [List.setIfInBounds_toArray]
          try simp only [List.set_cons_succ, List.set_cons_zero]
          refine wpAnyH_take (i := 14) (v := .bool false) rfl (by kernel_rfl) (by kernel_rfl) (by kernel_rfl) (fun _ _ _ h => h) (Or.inl ⟨by kernel_rfl, fun w1 hSw => by clear hHeld; obtain ⟨k0, k1, k2, k3, k4, k5⟩ := hSw; go_simp⟩) hHeld ?_
          try simp only [Act.put]
          try simp only [List.getElem_toArray]
          try simp only [List.getElem_cons_succ]
          try simp only [List.getElem_cons_zero]
          try simp only [List.setIfInBounds_toArray]
          try simp only [List.set_cons_succ, List.set_cons_zero]
          refine wpAnyH_take (i := 15) (v := .slice (some ⟨gl, 0, none⟩) L.length cl) rfl (by kernel_rfl) (by kernel_rfl) (by kernel_rfl) (fun _ _ _ h => h) (Or.inl ⟨by kernel_rfl, fun w1 hSw => by clear hHeld; obtain ⟨k0, k1, k2, k3, k4, k5⟩ := hSw; go_simp⟩) hHeld ?_
          try simp only [Act.put]
          try simp only [List.getElem_toArray]
          try simp only [List.getElem_cons_succ]
          try simp only [List.getElem_cons_zero]
          try simp only [List.setIfInBounds_toArray]
          try simp only [List.set_cons_succ, List.set_cons_zero]
          refine wpAnyH_take (i := 16) (v := .int .i64 (k : Int)) rfl (by kernel_rfl) (by kernel_rfl) (by kernel_rfl) (fun _ _ _ h => h) (Or.inl ⟨by kernel_rfl, fun w1 hSw => by clear hHeld; obtain ⟨k0, k1, k2, k3, k4, k5⟩ := hSw; go_simp⟩) hHeld ?_
          try simp only [Act.put]
          try simp only [List.getElem_toArray]
          try simp only [List.getElem_cons_succ]
          try simp only [List.getElem_cons_zero]
          try simp only [List.setIfInBounds_toArray]
          try simp only [List.set_cons_succ, List.set_cons_zero]
          refine wpAnyH_take (i := 17) (v := .pointer (some ⟨gl, k, none⟩)) rfl (by kernel_rfl) (by kernel_rfl) (by kernel_rfl) (fun _ _ _ h => h) (Or.inl ⟨by kernel_rfl, fun w1 hSw => by clear hHeld; obtain ⟨k0, k1, k2, k3, k4, k5⟩ := hSw; go_simp⟩) hHeld ?_
          try simp only [Act.put]
          try simp only [List.getElem_toArray]
          try simp only [List.getElem_cons_succ]
          try simp only [List.getElem_cons_zero]
          try simp only [List.setIfInBounds_toArray]
          try simp only [List.set_cons_succ, List.set_cons_zero]
          refine wpAnyH_take (i := 18) (v := .pointer (some ⟨p.b, 0, none⟩)) rfl (by kernel_rfl) (by kernel_rfl) (by kernel_rfl) (fun _ _ _ h => h) (Or.inl ⟨by kernel_rfl, fun w1 hSw => by clear hHeld; obtain ⟨k0, k1, k2, k3, k4, k5⟩ := hSw; go_simp⟩) hHeld ?_
          try simp only [Act.put]
          try simp only [List.getElem_toArray]
          try simp only [List.getElem_cons_succ]
          try simp only [List.getElem_cons_zero]
          try simp only [List.setIfInBounds_toArray]
          try simp only [List.set_cons_succ, List.set_cons_zero]
          refine wpAnyH_take (i := 19) (v := .slice (some ⟨ga, 0, none⟩) L.length ca) rfl (by kernel_rfl) (by kernel_rfl) (by kernel_rfl) (fun _ _ _ h => h) (Or.inl ⟨by kernel_rfl, fun w1 hSw => by clear hHeld; obtain ⟨k0, k1, k2, k3, k4, k5⟩ := hSw; go_simp⟩) hHeld ?_
          try simp only [Act.put]
          try simp only [List.getElem_toArray]
          try simp only [List.getElem_cons_succ]
          try simp only [List.getElem_cons_zero]
          try simp only [List.setIfInBounds_toArray]
          try simp only [List.set_cons_succ, List.set_cons_zero]
          refine wpAnyH_take (i := 20) (v := .int .i64 (k : Int)) rfl (by kernel_rfl) (by kernel_rfl) (by kernel_rfl) (fun _ _ _ h => h) (Or.inl ⟨by kernel_rfl, fun w1 hSw => by clear hHeld; obtain ⟨k0, k1, k2, k3, k4, k5⟩ := hSw; go_simp⟩) hHeld ?_
          try simp only [Act.put]
          try simp only [List.getElem_toArray]
          try simp only [List.getElem_cons_succ]
          try simp only [List.getElem_cons_zero]
          try simp only [List.setIfInBounds_toArray]
          try simp only [List.set_cons_succ, List.set_cons_zero]
          refine wpAnyH_take (i := 21) (v := .pointer (some ⟨ga, k, none⟩)) rfl (by kernel_rfl) (by kernel_rfl) (by kernel_rfl) (fun _ _ _ h => h) (Or.inl ⟨by kernel_rfl, fun w1 hSw => by clear hHeld; obtain ⟨k0, k1, k2, k3, k4, k5⟩ := hSw; go_simp⟩) hHeld ?_
          try simp only [Act.put]
          try simp only [List.getElem_toArray]
          try simp only [List.getElem_cons_succ]
          try simp only [List.getElem_cons_zero]
          try simp only [List.setIfInBounds_toArray]
          try simp only [List.set_cons_succ, List.set_cons_zero]
          refine wpAnyH_take (i := 22) (v := .pointer (some ⟨p.x, 0, none⟩)) rfl (by kernel_rfl) (by kernel_rfl) (by kernel_rfl) (fun _ _ _ h => h) (Or.inl ⟨by kernel_rfl, fun w1 hSw => by clear hHeld; obtain ⟨k0, k1, k2, k3, k4, k5⟩ := hSw; go_simp⟩) hHeld ?_
          try simp only [Act.put]
          try simp only [List.getElem_toArray]
          try simp only [List.getElem_cons_succ]
          try simp only [List.getElem_cons_zero]
          try simp only [List.setIfInBounds_toArray]
          try simp only [List.set_cons_succ, List.set_cons_zero]
          refine wpAnyH_ready (rs := [23]) (by kernel_rfl) (by simp) ?_
          refine AllReadyH.cons rfl (fun K hK => ?_) AllReadyH.nil
          go_simp
          have hst := stands_any HP1.out
          rw [HXb.out, HXx.out] at hst
          refine hst.mono ?_
          rintro e V2 ⟨rfl, m2, hV2⟩
          have HV2 := hide hV2
          have HS2 := hide (SS2 hV2 hHeld)
          clear hV2 hst
          refine hK.out _ _ (HS2.out) (fun hHeld => ?_)
          clear hK K
          try simp only [Act.put]
          try simp only [List.getElem_toArray]
          try simp only [List.getElem_cons_succ]
          try simp only [List.getElem_cons_zero]
          try simp only [List.setIfInBounds_toArray]
          try simp only [List.set_cons_succ, List.set_cons_zero]
          refine wpAnyH_take (i := 24) (v := .bool false) rfl (by kernel_rfl) (by kernel_rfl) (by kernel_rfl) (fun _ _ _ h => h) (Or.inl ⟨by kernel_rfl, fun w1 hSw => by clear hHeld; obtain ⟨k0, k1, k2, k3, k4, k5⟩ := hSw; go_simp⟩) hHeld ?_
          try simp only [Act.put]
          try simp only [List.getElem_toArray]
          try simp only [List.getElem_cons_succ]
          try simp only [List.getElem_cons_zero]
          try simp only [List.setIfInBounds_toArray]
          try simp only [List.set_cons_succ, List.set_cons_zero]
          refine wpAnyH_take (i := 25) (v := .bool false) rfl (by kernel_rfl) (by kernel_rfl) (by kernel_rfl) (fun _ _ _ h => h) (Or.inl ⟨by kernel_rfl, fun w1 hSw => by clear hHeld; obtain ⟨k0, k1, k2, k3, k4, k5⟩ := hSw; go_simp⟩) hHeld ?_
          try simp only [Act.put]
          try simp only [List.getElem_toArray]
          try simp only [List.getElem_cons_succ]
          try simp only [List.getElem_cons_zero]
          try simp only [List.setIfInBounds_toArray]
          try simp only [List.set_cons_succ, List.set_cons_zero]
          refine wpAnyH_done (by kernel_rfl) ?_ _
          have HM2 := hide (HM1.out.eqD HV2.out)
          have HB2 : Hid (Below w.heap.size w V2) := hide (by rw [HV2.out]; exact below_drewN HB1.out _)
          clear HV2
          go_wp2_with fail
          go_roundw
          case rel => exact ⟨i + 1, L.set k p', by omega, by go_num, by rw [List.length_set]; omega, by rw [List.length_set]; omega, hide ⟨HM2.out, HB2.out⟩⟩
          case measure => simp only [intOf]; omega
    · have hii : ¬ (i : Int) < (Q.length : Int) := by omega
      clear HQ HQB hiq
      go_wp2_with fail
      go_loopw [16] (fun t wx => ∃ (k : Nat) (L' : List Pr), t = .int .i64 (k : Int) ∧ k ≤ L.length ∧ Hid (L'.length = L.length) ∧ Hid (Mm w.heap.size wx (.slice (some ⟨gl, 0, none⟩) L.length cl) (.slice (some ⟨ga, 0, none⟩) L.length ca) L' ∧ Below w.heap.size w wx)) (fun t _ => L.length - (intOf t).toNat)
      case atStart => exact ⟨0, L, rfl, Nat.zero_le _, hide rfl, hide ⟨HM.out, HB.out⟩⟩
      case round =>
        clear HM HB
        obtain ⟨k, L', rfl, hk, HLe, HMB⟩ := hrel
        have HMx := hide HMB.out.1
        have HB := hide HMB.out.2
        clear HMB
        by_cases hkl : k < L.length
        · have hkI : (k : Int) < (L.length : Int) := by omega
          obtain ⟨p, hp⟩ : ∃ p, L'[k]? = some p := ⟨_, List.getElem?_eq_getElem (by rw [HLe.out]; exact hkl)⟩
          have HK := hide hp
          obtain ⟨n, hn⟩ : ∃ n, L.length = n := ⟨_, rfl⟩
          have hLe := HLe.out
          rw [hn] at hLe HMx ⊢
          subst hLe
          generalize L' = L at *
          have HM0 := hide (HMx.out.below (below_drew (Below.refl _ wr)))
          have HB0 := hide (below_drew HB.out)
          have HP0 := hide (HM0.out.kp.one k p hp)
          have HS0 := hide (show wr.drew.cell? ⟨gl, k, none⟩ = some (.pointer (some ⟨p.b, 0, none⟩)) ∧ wr.drew.cell? ⟨ga, k, none⟩ = some (.pointer (some ⟨p.x, 0, none⟩)) from ⟨HM0.out.cl hp, HM0.out.ca hp⟩)
          clear hp HMx HB
          go_wp2_with fail
          refine wp_region_held_drew (S := fun w' => w'.cell? ⟨gl, k, none⟩ = some (.pointer (some ⟨p.b, 0, none⟩)) ∧ w'.cell? ⟨ga, k, none⟩ = some (.pointer (some ⟨p.x, 0, none⟩))) (by kernel_rfl) (HS0.out) (fun hHeld => ?_)
          refine wpAnyH_take (i := 0) (v := .slice (some ⟨gl, 0, none⟩) L.length cl) rfl (by kernel_rfl) (by kernel_rfl) (by kernel_rfl) (fun _ _ _ h => h) (Or.inl ⟨by kernel_rfl, fun w1 hSw => by clear hHeld; obtain ⟨k0, k1⟩ := hSw; go_simp⟩) hHeld ?_
          try simp only [Act.put]
          try simp only [List.getElem_toArray]
          try simp only [List.getElem_cons_succ]
          try simp only [List.getElem_cons_zero]
          try simp only [List.setIfInBounds_toArray]
          try simp only [List.set_cons_succ, List.set_cons_zero]
          refine wpAnyH_take (i := 1) (v := .int .i64 (k : Int)) rfl (by kernel_rfl) (by kernel_rfl) (by kernel_rfl) (fun _ _ _ h => h) (Or.inl ⟨by kernel_rfl, fun w1 hSw => by clear hHeld; obtain ⟨k0, k1⟩ := hSw; go_simp⟩) hHeld ?_
          try simp only [Act.put]
          try simp only [List.getElem_toArray]
          try simp only [List.getElem_cons_succ]
          try simp only [List.getElem_cons_zero]
          try simp only [List.setIfInBounds_toArray]
          try simp only [List.set_cons_succ, List.set_cons_zero]
          refine wpAnyH_take (i := 2) (v := .pointer (some ⟨gl, k, none⟩)) rfl (by kernel_rfl) (by kernel_rfl) (by kernel_rfl) (fun _ _ _ h => h) (Or.inl ⟨by kernel_rfl, fun w1 hSw => by clear hHeld; obtain ⟨k0, k1⟩ := hSw; go_simp⟩) hHeld ?_
          try simp only [Act.put]
          try simp only [List.getElem_toArray]
          try simp only [List.getElem_cons_succ]
          try simp only [List.getElem_cons_zero]
          try simp only [List.setIfInBounds_toArray]
          try simp only [List.set_cons_succ, List.set_cons_zero]
          refine wpAnyH_take (i := 3) (v := .pointer (some ⟨p.b, 0, none⟩)) rfl (by kernel_rfl) (by kernel_rfl) (by kernel_rfl) (fun _ _ _ h => h) (Or.inl ⟨by kernel_rfl, fun w1 hSw => by clear hHeld; obtain ⟨k0, k1⟩ := hSw; go_simp⟩) hHeld ?_
          try simp only [Act.put]
          try simp only [List.getElem_toArray]
          try simp only [List.getElem_cons_succ]
          try simp only [List.getElem_cons_zero]
          try simp only [List.setIfInBounds_toArray]
          try simp only [List.set_cons_succ, List.set_cons_zero]
          refine wpAnyH_take (i := 4) (v := .slice (some ⟨ga, 0, none⟩) L.length ca) rfl (by kernel_rfl) (by kernel_rfl) (by kernel_rfl) (fun _ _ _ h => h) (Or.inl ⟨by kernel_rfl, fun w1 hSw => by clear hHeld; obtain ⟨k0, k1⟩ := hSw; go_simp⟩) hHeld ?_
          try simp only [Act.put]
          try simp only [List.getElem_toArray]
          try simp only [List.getElem_cons_succ]
          try simp only [List.getElem_cons_zero]
          try simp only [List.setIfInBounds_toArray]
          try simp only [List.set_cons_succ, List.set_cons_zero]
          refine wpAnyH_take (i := 5) (v := .int .i64 (k : Int)) rfl (by kernel_rfl) (by kernel_rfl) (by kernel_rfl) (fun _ _ _ h => h) (Or.inl ⟨by kernel_rfl, fun w1 hSw => by clear hHeld; obtain ⟨k0, k1⟩ := hSw; go_simp⟩) hHeld ?_
          try simp only [Act.put]
          try simp only [List.getElem_toArray]
          try simp only [List.getElem_cons_succ]
          try simp only [List.getElem_cons_zero]
          try simp only [List.setIfInBounds_toArray]
          try simp only [List.set_cons_succ, List.set_cons_zero]
          refine wpAnyH_take (i := 6) (v := .pointer (some ⟨ga, k, none⟩)) rfl (by kernel_rfl) (by kernel_rfl) (by kernel_rfl) (fun _ _ _ h => h) (Or.inl ⟨by kernel_rfl, fun w1 hSw => by clear hHeld; obtain ⟨k0, k1⟩ := hSw; go_simp⟩) hHeld ?_
          try simp only [Act.put]
          try simp only [List.getElem_toArray]
          try simp only [List.getElem_cons_succ]
          try simp only [List.getElem_cons_zero]
          try simp only [List.setIfInBounds_toArray]
          try simp only [List.set_cons_succ, List.set_cons_zero]
          refine wpAnyH_take (i := 7) (v := .pointer (some ⟨p.x, 0, none⟩)) rfl (by kernel_rfl) (by kernel_rfl) (by kernel_rfl) (fun _ _ _ h => h) (Or.inl ⟨by kernel_rfl, fun w1 hSw => by clear hHeld; obtain ⟨k0, k1⟩ := hSw; go_simp⟩) hHeld ?_
          try simp only [Act.put]
          try simp only [List.getElem_toArray]
          try simp only [List.getElem_cons_succ]
          try simp only [List.getElem_cons_zero]
          try simp only [List.setIfInBounds_toArray]
          try simp only [List.set_cons_succ, List.set_cons_zero]
          refine wpAnyH_ready (rs := [8]) (by kernel_rfl) (by simp) ?_
          refine AllReadyH.cons rfl (fun K hK => ?_) AllReadyH.nil
          go_simp
          refine (stands_any HP0.out).mono ?_
          rintro e V1 ⟨rfl, m1, hV1⟩
          have HP1 : Hid (One w.heap.size V1 p) := hide (by rw [hV1]; exact HP0.out.drewN _)
          have HM1 : Hid (Mm w.heap.size V1 (.slice (some ⟨gl, 0, none⟩) L.length cl) (.slice (some ⟨ga, 0, none⟩) L.length ca) L) := hide (HM0.out.eqD hV1)
          have HB1 : Hid (Below w.heap.size w V1) := hide (by rw [hV1]; exact below_drewN HB0.out _)
          have HS1 := hide (show V1.cell? ⟨gl, k, none⟩ = some (.pointer (some ⟨p.b, 0, none⟩)) ∧ V1.cell? ⟨ga, k, none⟩ = some (.pointer (some ⟨p.x, 0, none⟩)) from ⟨HM1.out.cl HK.out, HM1.out.ca HK.out⟩)
          clear hV1
          refine hK.out _ _ (HS1.out) (fun hHeld => ?_)
          clear hK K
          try simp only [Act.put]
          try simp only [List.getElem_toArray]
          try simp only [List.getElem_cons_succ]
          try simp only [List.getElem_cons_zero]
          try simp only [List.setIfInBounds_toArray]
          try simp only [List.set_cons_succ, List.set_cons_zero]
          refine wpAnyH_take (i := 9) (v := .bool false) rfl (by kernel_rfl) (by kernel_rfl) (by kernel_rfl) (fun _ _ _ h => h) (Or.inl ⟨by kernel_rfl, fun w1 hSw => by clear hHeld; obtain ⟨k0, k1⟩ := hSw; go_simp⟩) hHeld ?_
          try simp only [Act.put]
          try simp only [List.getElem_toArray]
          try simp only [List.getElem_cons_succ]
          try simp only [List.getElem_cons_zero]
          try simp only [List.setIfInBounds_toArray]
          try simp only [List.set_cons_succ, List.set_cons_zero]
          refine wpAnyH_take (i := 10) (v := .bool false) rfl (by kernel_rfl) (by kernel_rfl) (by kernel_rfl) (fun _ _ _ h => h) (Or.inl ⟨by kernel_rfl, fun w1 hSw => by clear hHeld; obtain ⟨k0, k1⟩ := hSw; go_simp⟩) hHeld ?_
          try simp only [Act.put]
          try simp only [List.getElem_toArray]
          try simp only [List.getElem_cons_succ]
          try simp only [List.getElem_cons_zero]
          try simp only [List.setIfInBounds_toArray]
          try simp only [List.set_cons_succ, List.set_cons_zero]
          refine wpAnyH_take (i := 11) (v := .slice (some ⟨gl, 0, none⟩) L.length cl) rfl (by kernel_rfl) (by kernel_rfl) (by kernel_rfl) (fun _ _ _ h => h) (Or.inl ⟨by kernel_rfl, fun w1 hSw => by clear hHeld; obtain ⟨k0, k1⟩ := hSw; go_simp⟩) hHeld ?_
          try simp only [Act.put]
          try simp only [List.getElem_toArray]
          try simp only [List.getElem_cons_succ]
          try simp only [List.getElem_cons_zero]
          try simp only [List.setIfInBounds_toArray]
          try simp only [List.set_cons_succ, List.set_cons_zero]
          refine wpAnyH_take (i := 12) (v := .int .i64 (k : Int)) rfl (by kernel_rfl) (by kernel_rfl) (by kernel_rfl) (fun _ _ _ h => h) (Or.inl ⟨by kernel_rfl, fun w1 hSw => by clear hHeld; obtain ⟨k0, k1⟩ := hSw; go_simp⟩) hHeld ?_
          try simp only [Act.put]
          try simp only [List.getElem_toArray]
          try simp only [List.getElem_cons_succ]
          try simp only [List.getElem_cons_zero]
          try simp only [List.setIfInBounds_toArray]
          try simp only [List.set_cons_succ, List.set_cons_zero]
          refine wpAnyH_take (i := 13) (v := .pointer (some ⟨gl, k, none⟩)) rfl (by kernel_rfl) (by kernel_rfl) (by kernel_rfl) (fun _ _ _ h => h) (Or.inl ⟨by kernel_rfl, fun w1 hSw => by clear hHeld; obtain ⟨k0, k1⟩ := hSw; go_simp⟩) hHeld ?_
          try simp only [Act.put]
          try simp only [List.getElem_toArray]
          try simp only [List.getElem_cons_succ]
          try simp only [List.getElem_cons_zero]
          try simp only [List.setIfInBounds_toArray]
          try simp only [List.set_cons_succ, List.set_cons_zero]
          refine wpAnyH_take (i := 14) (v := .pointer (some ⟨p.b, 0, none⟩)) rfl (by kernel_rfl) (by kernel_rfl) (by kernel_rfl) (fun _ _ _ h => h) (Or.inl ⟨by kernel_rfl, fun w1 hSw => by clear hHeld; obtain ⟨k0, k1⟩ := hSw; go_simp⟩) hHeld ?_
          try simp only [Act.put]
          try simp only [List.getElem_toArray]
          try simp only [List.getElem_cons_succ]
          try simp only [List.getElem_cons_zero]
          try simp only [List.setIfInBounds_toArray]
          try simp only [List.set_cons_succ, List.set_cons_zero]
          refine wpAnyH_take (i := 15) (v := .slice (some ⟨ga, 0, none⟩) L.length ca) rfl (by kernel_rfl) (by kernel_rfl) (by kernel_rfl) (fun _ _ _ h => h) (Or.inl ⟨by kernel_rfl, fun w1 hSw => by clear hHeld; obtain ⟨k0, k1⟩ := hSw; go_simp⟩) hHeld ?_
          try simp only [Act.put]
          try simp only [List.getElem_toArray]
          try simp only [List.getElem_cons_succ]
          try simp only [List.getElem_cons_zero]
          try simp only [List.setIfInBounds_toArray]
          try simp only [List.set_cons_succ, List.set_cons_zero]
          refine wpAnyH_take (i := 16) (v := .int .i64 (k : Int)) rfl (by kernel_rfl) (by kernel_rfl) (by kernel_rfl) (fun _ _ _ h => h) (Or.inl ⟨by kernel_rfl, fun w1 hSw => by clear hHeld; obtain ⟨k0, k1⟩ := hSw; go_simp⟩) hHeld ?_
          try simp only [Act.put]
          try simp only [List.getElem_toArray]
          try simp only [List.getElem_cons_succ]
          try simp only [List.getElem_cons_zero]
          try simp only [List.setIfInBounds_toArray]
          try simp only [List.set_cons_succ, List.set_cons_zero]
          refine wpAnyH_take (i := 17) (v := .pointer (some ⟨ga, k, none⟩)) rfl (by kernel_rfl) (by kernel_rfl) (by kernel_rfl) (fun _ _ _ h => h) (Or.inl ⟨by kernel_rfl, fun w1 hSw => by clear hHeld; obtain ⟨k0, k1⟩ := hSw; go_simp⟩) hHeld ?_
          try simp only [Act.put]
          try simp only [List.getElem_toArray]
          try simp only [List.getElem_cons_succ]
          try simp only [List.getElem_cons_zero]
          try simp only [List.setIfInBounds_toArray]
          try simp only [List.set_cons_succ, List.set_cons_zero]
          refine wpAnyH_take (i := 18) (v := .pointer (some ⟨p.x, 0, none⟩)) rfl (by kernel_rfl) (by kernel_rfl) (by kernel_rfl) (fun _ _ _ h => h) (Or.inl ⟨by kernel_rfl, fun w1 hSw => by clear hHeld; obtain ⟨k0, k1⟩ := hSw; go_simp⟩) hHeld ?_
          try simp only [Act.put]
          try simp only [List.getElem_toArray]
          try simp only [List.getElem_cons_succ]
          try simp only [List.getElem_cons_zero]
          try simp only [List.setIfInBounds_toArray]
          try simp only [List.set_cons_succ, List.set_cons_zero]
          refine wpAnyH_ready (rs := [19]) (by kernel_rfl) (by simp) ?_
          refine AllReadyH.cons rfl (fun K hK => ?_) AllReadyH.nil
          go_simp
          refine (ldue_any HP1.out).mono ?_
          rintro e V2 ⟨rfl, p', hp1, hp2, hp3⟩
          have HM2 := hide (HM1.out.step HK.out hp1 hp2 hp3)
          have HB2 := hide (HB1.out.trans (hp2.below HP1.out HB1.out.size))
          have HS2 := hide (cells_of HM2.out (List.getElem?_set_self (List.getElem?_eq_some_iff.mp HK.out).1) hp3.b hp3.x)
          clear hp1 hp2 hp3
          refine hK.out _ _ (HS2.out) (fun hHeld => ?_)
          clear hK K
          try simp only [Act.put]
          try simp only [List.getElem_toArray]
          try simp only [List.getElem_cons_succ]
          try simp only [List.getElem_cons_zero]
          try simp only [List.setIfInBounds_toArray]
          try simp only [List.set_cons_succ, List.set_cons_zero]
          refine wpAnyH_take (i := 20) (v := .bool false) rfl (by kernel_rfl) (by kernel_rfl) (by kernel_rfl) (fun _ _ _ h => h) (Or.inl ⟨by kernel_rfl, fun w1 hSw => by clear hHeld; obtain ⟨k0, k1⟩ := hSw; go_simp⟩) hHeld ?_
          try simp only [Act.put]
          try simp only [List.getElem_toArray]
          try simp only [List.getElem_cons_succ]
          try simp only [List.getElem_cons_zero]
          try simp only [List.setIfInBounds_toArray]
          try simp only [List.set_cons_succ, List.set_cons_zero]
          refine wpAnyH_take (i := 21) (v := .bool false) rfl (by kernel_rfl) (by kernel_rfl) (by kernel_rfl) (fun _ _ _ h => h) (Or.inl ⟨by kernel_rfl, fun w1 hSw => by clear hHeld; obtain ⟨k0, k1⟩ := hSw; go_simp⟩) hHeld ?_
          try simp only [Act.put]
          try simp only [List.getElem_toArray]
          try simp only [List.getElem_cons_succ]
          try simp only [List.getElem_cons_zero]
          try simp only [List.setIfInBounds_toArray]
          try simp only [List.set_cons_succ, List.set_cons_zero]
          refine wpAnyH_done (by kernel_rfl) ?_ _
          go_wp2_with fail
          go_roundw
          case rel => exact ⟨k + 1, L.set k p', by go_num, by omega, hide (by rw [List.length_set]), hide ⟨HM2.out, HB2.out⟩⟩
          case measure => simp only [intOf]; omega
        · have hkI : ¬ (k : Int) < (L.length : Int) := by omega
          go_wp2_with fail
          go_ret
          exact ⟨rfl, HB.out⟩
end Go.Proofs.Yteckkaapibbpcaa
