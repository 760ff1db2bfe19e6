import Derived.Test.YthnmjjlbocofbabQuV
namespace Go.Proofs.Ythnmjjlbocofbab
open Go.RowKit

/-- a queue and another one -/
structure Tw (w0 : World) (b : Nat) (v : Value) (d : Nat) (u : Value) (m : Int) (L M : List Rr) (w : World) : Prop where
  q : Qt w0 b v m L w
  c : Qt w0 d u m M w
  ap : ∀ k, Ft b v k → ¬ Ft d u k
section
variable {w0 w w' : World} {b d : Nat} {v u : Value} {m : Int} {L M : List Rr}
theorem Tw.below (h : Tw w0 b v d u m L M w) (hb : Below w.heap.size w w') : Tw w0 b v d u m L M w' := ⟨h.q.below hb, h.c.below hb, h.ap⟩
theorem Tw.does {v' : Value} {L' : List Rr} (h : Tw w0 b v d u m L M w) (hq : Qm 53 w0.heap.size w' b v' m L') (hm : Mv (Ft b v) (Ft b v') w w') : Tw w0 b v' d u m L' M w' :=
  ⟨h.q.mv hq hm, ⟨h.c.q.mv hm fun k hk hf => h.ap k hf hk, h.q.bel.trans (hm.below h.q.bel.size fun k hk => (h.q.q.ftlt k hk).1)⟩, fun k hk hf => (hm.foot k hk).elim (fun hk2 => h.ap k hk2 hf) fun hk2 => absurd (h.c.q.ftlt k hf).2 (by omega)⟩
theorem Tw.swap (h : Tw w0 b v d u m L M w) : Tw w0 d u b v m M L w := ⟨h.c, h.q, fun k hk hf => h.ap k hf hk⟩
theorem Tw.clone {d' : Nat} {u' : Value} (h : Qt w0 b v m L w) (hq : Qm 53 w.heap.size w' d' u' m L) (hb : Below w.heap.size w w') : Tw w0 b v d' u' m L L w' := by
  refine ⟨h.below hb, ⟨⟨hq.blk, Nat.le_trans h.bel.size hq.low, ?_, hq.apt⟩, h.bel.trans (hb.mono h.bel.size)⟩, fun k hk hf => absurd (h.q.ftlt k hk).2 (by have := (hq.ftlt k hf).1; omega)⟩
  refine ⟨hq.row.1, ?_⟩
  rcases hq.row.2 with h1 | ⟨g, cap, cur, e, hg, h2⟩
  · exact .inl h1
  · exact .inr ⟨g, cap, cur, e, Nat.le_trans h.bel.size hg, h2⟩
end
set_option maxHeartbeats 8000000 in
set_option maxRecDepth 8000 in
theorem queueTwins_walk {w : World} {x : Int} (_ : -9223372036854775808 ≤ x ∧ x ≤ 9223372036854775807) {ad : Option Addr} {ab ao cap : Nat} {Q : List Rr} (hQ : Rs w ad ab ao Q) (hQl : Q.length ≤ 2199023255488) (_ : ∀ i (h : i < Q.length), -9223372036854775808 ≤ (Q[i]).job ∧ (Q[i]).job ≤ 9223372036854775807) {z : Int} (_ : -9223372036854775808 ≤ z ∧ z ≤ 9223372036854775807) :
    Calls Try.prog 3 #[.int .i64 x, .slice ad Q.length cap, .int .i64 z] w fun e w' => e = .returned (.bool true) ∧ Below w.heap.size w w' := by
  have HN := hide (qnew_any w x)
  have HS := hide hQ
  clear hQ
  go_enter Try.func3, Try.ntmps3
  go_wp2_with fail
  refine HN.out.mono ?_
  rintro e w1 (⟨h, rfl, hB1⟩ | ⟨b, v, hk, rfl, hq, hB1⟩)
  · have HB1 := hide hB1
    clear HN h hB1
    go_wp2_with fail
    refine (fixed_any _).mono ?_
    rintro e w2 ⟨rfl, hB2⟩
    go_wp2_with fail
    go_ret
    exact ⟨rfl, HB1.out.trans (hB2.mono HB1.out.size)⟩
  have HQ : Hid (Qt w b v x [] w1) := hide ⟨hq, hB1⟩
  have HK := hide hk
  clear HN hk hq hB1
  go_wp2_with fail
  refine (qclone_any HQ.out.q (by decide)).mono ?_
  rintro e w2 ⟨d, u, rfl, hq2, hB2⟩
  have HT := hide (Tw.clone HQ.out hq2 hB2)
  clear hq2 hB2 HQ
  go_wp2_with fail
  go_loopw [9, 10] (fun c s wr => ∃ (i d : Nat) (v u : Value) (L M : List Rr), i ≤ Q.length ∧ c = .pointer (some ⟨d, 0, none⟩) ∧ s = .int .i64 (i : Int) ∧ Hid (Ok x L ∧ Ok x M) ∧ Hid (0 ≤ z ∧ z < i → M = L) ∧ Hid (Tw w b v d u x L M wr)) (fun _ s _ => Q.length - (intOf s).toNat)
  case atStart => exact ⟨0, d, v, u, [], [], Nat.zero_le _, rfl, rfl, hide ⟨HK.out, HK.out⟩, hide (fun _ => rfl), HT⟩
  case round =>
    clear HK HT
    obtain ⟨i, d, v, u, L, M, hi, rfl, rfl, HK, HR, HT⟩ := hrel
    by_cases hiq : i < Q.length
    · have hii : (i : Int) < (Q.length : Int) := by omega
      have hat := HS.out.at_ (by omega)
      subst hat
      have HO := hide (fun V (hV : Below w.heap.size w V) => (⟨(HS.out.below hV).eight hiq, (HS.out.below hV).lt (by omega)⟩ : _ ∧ ab < V.heap.size))
      generalize Q[i] = o at *
      by_cases hz : (i : Int) = z
      · have bz : ((i : Int) == z) = true := by simpa using hz
        have z1 : z ≤ (i : Int) := by omega
        have z0 : 0 ≤ z := by omega
        clear hz
        go_wp2_with fail
        refine (qclone_any HT.out.q.q HK.out.1.len).mono ?_
        rintro e w3 ⟨d3, u3, rfl, hq3, hB3⟩
        have HT3 := hide (Tw.clone HT.out.q hq3 hB3)
        have HK1 := hide HK.out.1
        clear HT HK HR hq3 hB3
        obtain ⟨M, hML⟩ : ∃ M, M = L := ⟨_, rfl⟩
        have HT : Hid (Tw w b v d3 u3 x L M w3) := by rw [hML]; exact HT3
        have HK : Hid (Ok x L ∧ Ok x M) := by rw [hML]; exact hide ⟨HK1.out, HK1.out⟩
        have HM : Hid (M = L) := hide hML
        clear hML HT3 HK1
        go_wp2_with fail
        refine (qrows_any HT.out.c.q HK.out.2.len).mono ?_
        rintro e wa ⟨rfl, hoa, hBa⟩
        have HTa := hide (HT.out.below hBa)
        have HGa := hide (Rs.own0 hoa)
        obtain ⟨G, hG⟩ : ∃ G, w3.heap.size = G := ⟨_, rfl⟩
        have hvG : ∀ k, Ft b v k → k < G := fun k hk => by rw [← hG]; exact (HT.out.q.q.ftlt k hk).2
        rw [hG] at HGa ⊢
        clear hoa hBa hG HT
        obtain ⟨⟨c0, c1, c2, c3, c4, c5, c6, c7⟩, hlt⟩ := HO.out _ HTa.out.q.bel
        go_wp2_with fail
        refine (does_any HTa.out.q.q HK.out.1 o).mono ?_
        rintro e wb ⟨rfl, v2, hqb, hmb⟩
        have HTb := hide (HTa.out.does hqb hmb)
        have HGb := hide (HGa.out.keep fun h0 => hmb.block _ (HGa.out.lt h0) fun hf => absurd (hvG _ hf) (by omega))
        have HK2 := hide (HK.out.1.does o)
        clear hqb hmb HTa HGa c0 c1 c2 c3 c4 c5 c6 c7 hvG
        generalize dsB L o = B1
        go_wp2_with fail
        refine (qrows_any HTb.out.c.q HK.out.2.len).mono ?_
        rintro e wc ⟨rfl, hoc, hBc⟩
        have HTc := hide (HTb.out.below hBc)
        have HGc := hide (HGb.out.below hBc)
        have HHc := hide (Rs.own0 hoc)
        generalize wb.heap.size = G2 at *
        clear hoc hBc HTb HGb
        go_wp2_with fail
        refine (same_self HHc.out HGc.out (by have := HK.out.2.len; omega)).mono ?_
        rintro e we ⟨rfl, hBe⟩
        have HTe := hide (HTc.out.below hBe)
        clear hBe HTc HGc HHc
        have HKM := hide HK.out.2
        obtain rfl := HM.out
        clear HM
        go_wp2_with fail
        refine (qrows_any HTe.out.q.q HK2.out.len).mono ?_
        rintro e wf ⟨rfl, hof, hBf⟩
        have HTf := hide (HTe.out.below hBf)
        have HGf := hide (Rs.own0 hof)
        obtain ⟨G3, hG3⟩ : ∃ G, we.heap.size = G := ⟨_, rfl⟩
        have huG : ∀ k, Ft d3 u3 k → k < G3 := fun k hk => by rw [← hG3]; exact (HTe.out.c.q.ftlt k hk).2
        rw [hG3] at HGf ⊢
        clear hof hBf hG3 HTe
        obtain ⟨⟨c0, c1, c2, c3, c4, c5, c6, c7⟩, hlt⟩ := HO.out _ HTf.out.q.bel
        go_wp2_with fail
        refine (does_any HTf.out.c.q HKM.out o).mono ?_
        rintro e wg ⟨rfl, u2, hqg, hmg⟩
        have HTg := hide (HTf.out.swap.does hqg hmg).swap
        have HGg := hide (HGf.out.keep fun h0 => hmg.block _ (HGf.out.lt h0) fun hf => absurd (huG _ hf) (by omega))
        clear hqg hmg HTf HGf c0 c1 c2 c3 c4 c5 c6 c7 huG
        generalize dsL x M o = N at *
        go_wp2_with fail
        refine (qrows_any HTg.out.c.q HK2.out.len).mono ?_
        rintro e wh ⟨rfl, hoh, hBh⟩
        have HTh := hide (HTg.out.below hBh)
        have HGh := hide (HGg.out.below hBh)
        have HHh := hide (Rs.own0 hoh)
        generalize wg.heap.size = G4 at *
        clear hoh hBh HTg HGg
        go_wp2_with fail
        refine (same_self HHh.out HGh.out (by have := HK2.out.len; omega)).mono ?_
        rintro e wi ⟨rfl, hBi⟩
        have HTi := hide (HTh.out.below hBi)
        have HGi := hide (HGh.out.below hBi)
        clear hBi HTh HGh HHh
        go_wp2_with fail
        refine (qrows_any HTi.out.q.q HK2.out.len).mono ?_
        rintro e wj ⟨rfl, hoj, hBj⟩
        have HTj := hide (HTi.out.below hBj)
        have HGj := hide (HGi.out.below hBj)
        have HHj := hide (Rs.own0 hoj)
        generalize wi.heap.size = G5 at *
        clear hoj hBj HTi HGi
        go_wp2_with fail
        refine (same_self HHj.out HGj.out (by have := HK2.out.len; omega)).mono ?_
        rintro e wk ⟨rfl, hBk⟩
        have HTk := hide (HTj.out.below hBk)
        clear hBk HTj HGj HHj
        go_wp2_with fail
        go_roundw
        case rel => exact ⟨i + 1, d3, v2, u2, N, N, by omega, rfl, by go_num, hide ⟨HK2.out, HK2.out⟩, hide (fun _ => rfl), HTk⟩
        case measure => simp only [intOf]; omega
      · have bz : ((i : Int) == z) = false := by simpa using hz
        by_cases hin : z ≤ (i : Int) ∧ 0 ≤ z
        · have z1 := hin.1
          have z0 := hin.2
          have HM := hide (HR.out ⟨z0, by omega⟩)
          clear hz hin HR
          go_wp2_with fail
          refine (qrows_any HT.out.c.q HK.out.2.len).mono ?_
          rintro e wa ⟨rfl, hoa, hBa⟩
          have HTa := hide (HT.out.below hBa)
          have HGa := hide (Rs.own0 hoa)
          obtain ⟨G, hG⟩ : ∃ G, wr.heap.size = G := ⟨_, rfl⟩
          have hvG : ∀ k, Ft b v k → k < G := fun k hk => by rw [← hG]; exact (HT.out.q.q.ftlt k hk).2
          rw [hG] at HGa ⊢
          clear hoa hBa hG HT
          obtain ⟨⟨c0, c1, c2, c3, c4, c5, c6, c7⟩, hlt⟩ := HO.out _ HTa.out.q.bel
          go_wp2_with fail
          refine (does_any HTa.out.q.q HK.out.1 o).mono ?_
          rintro e wb ⟨rfl, v2, hqb, hmb⟩
          have HTb := hide (HTa.out.does hqb hmb)
          have HGb := hide (HGa.out.keep fun h0 => hmb.block _ (HGa.out.lt h0) fun hf => absurd (hvG _ hf) (by omega))
          have HK2 := hide (HK.out.1.does o)
          clear hqb hmb HTa HGa c0 c1 c2 c3 c4 c5 c6 c7 hvG
          generalize dsB L o = B1
          go_wp2_with fail
          refine (qrows_any HTb.out.c.q HK.out.2.len).mono ?_
          rintro e wc ⟨rfl, hoc, hBc⟩
          have HTc := hide (HTb.out.below hBc)
          have HGc := hide (HGb.out.below hBc)
          have HHc := hide (Rs.own0 hoc)
          generalize wb.heap.size = G2 at *
          clear hoc hBc HTb HGb
          go_wp2_with fail
          refine (same_self HHc.out HGc.out (by have := HK.out.2.len; omega)).mono ?_
          rintro e we ⟨rfl, hBe⟩
          have HTe := hide (HTc.out.below hBe)
          clear hBe HTc HGc HHc
          have HKM := hide HK.out.2
          obtain rfl := HM.out
          clear HM
          go_wp2_with fail
          refine (qrows_any HTe.out.q.q HK2.out.len).mono ?_
          rintro e wf ⟨rfl, hof, hBf⟩
          have HTf := hide (HTe.out.below hBf)
          have HGf := hide (Rs.own0 hof)
          obtain ⟨G3, hG3⟩ : ∃ G, we.heap.size = G := ⟨_, rfl⟩
          have huG : ∀ k, Ft d u k → k < G3 := fun k hk => by rw [← hG3]; exact (HTe.out.c.q.ftlt k hk).2
          rw [hG3] at HGf ⊢
          clear hof hBf hG3 HTe
          obtain ⟨⟨c0, c1, c2, c3, c4, c5, c6, c7⟩, hlt⟩ := HO.out _ HTf.out.q.bel
          go_wp2_with fail
          refine (does_any HTf.out.c.q HKM.out o).mono ?_
          rintro e wg ⟨rfl, u2, hqg, hmg⟩
          have HTg := hide (HTf.out.swap.does hqg hmg).swap
          have HGg := hide (HGf.out.keep fun h0 => hmg.block _ (HGf.out.lt h0) fun hf => absurd (huG _ hf) (by omega))
          clear hqg hmg HTf HGf c0 c1 c2 c3 c4 c5 c6 c7 huG
          generalize dsL x M o = N at *
          go_wp2_with fail
          refine (qrows_any HTg.out.c.q HK2.out.len).mono ?_
          rintro e wh ⟨rfl, hoh, hBh⟩
          have HTh := hide (HTg.out.below hBh)
          have HGh := hide (HGg.out.below hBh)
          have HHh := hide (Rs.own0 hoh)
          generalize wg.heap.size = G4 at *
          clear hoh hBh HTg HGg
          go_wp2_with fail
          refine (same_self HHh.out HGh.out (by have := HK2.out.len; omega)).mono ?_
          rintro e wi ⟨rfl, hBi⟩
          have HTi := hide (HTh.out.below hBi)
          have HGi := hide (HGh.out.below hBi)
          clear hBi HTh HGh HHh
          go_wp2_with fail
          refine (qrows_any HTi.out.q.q HK2.out.len).mono ?_
          rintro e wj ⟨rfl, hoj, hBj⟩
          have HTj := hide (HTi.out.below hBj)
          have HGj := hide (HGi.out.below hBj)
          have HHj := hide (Rs.own0 hoj)
          generalize wi.heap.size = G5 at *
          clear hoj hBj HTi HGi
          go_wp2_with fail
          refine (same_self HHj.out HGj.out (by have := HK2.out.len; omega)).mono ?_
          rintro e wk ⟨rfl, hBk⟩
          have HTk := hide (HTj.out.below hBk)
          clear hBk HTj HGj HHj
          go_wp2_with fail
          go_roundw
          case rel => exact ⟨i + 1, d, v2, u2, N, N, by omega, rfl, by go_num, hide ⟨HK2.out, HK2.out⟩, hide (fun _ => rfl), HTk⟩
          case measure => simp only [intOf]; omega
        · clear HR
          by_cases z1 : z ≤ (i : Int)
          · have z0 : ¬ 0 ≤ z := fun e => hin ⟨z1, e⟩
            clear hz hin
            go_wp2_with fail
            refine (qrows_any HT.out.c.q HK.out.2.len).mono ?_
            rintro e wa ⟨rfl, hoa, hBa⟩
            have HTa := hide (HT.out.below hBa)
            have HGa := hide (Rs.own0 hoa)
            obtain ⟨G, hG⟩ : ∃ G, wr.heap.size = G := ⟨_, rfl⟩
            have hvG : ∀ k, Ft b v k → k < G := fun k hk => by rw [← hG]; exact (HT.out.q.q.ftlt k hk).2
            rw [hG] at HGa ⊢
            clear hoa hBa hG HT
            obtain ⟨⟨c0, c1, c2, c3, c4, c5, c6, c7⟩, hlt⟩ := HO.out _ HTa.out.q.bel
            go_wp2_with fail
            refine (does_any HTa.out.q.q HK.out.1 o).mono ?_
            rintro e wb ⟨rfl, v2, hqb, hmb⟩
            have HTb := hide (HTa.out.does hqb hmb)
            have HGb := hide (HGa.out.keep fun h0 => hmb.block _ (HGa.out.lt h0) fun hf => absurd (hvG _ hf) (by omega))
            have HK2 := hide (HK.out.1.does o)
            clear hqb hmb HTa HGa c0 c1 c2 c3 c4 c5 c6 c7 hvG
            generalize dsB L o = B1
            go_wp2_with fail
            refine (qrows_any HTb.out.c.q HK.out.2.len).mono ?_
            rintro e wc ⟨rfl, hoc, hBc⟩
            have HTc := hide (HTb.out.below hBc)
            have HGc := hide (HGb.out.below hBc)
            have HHc := hide (Rs.own0 hoc)
            generalize wb.heap.size = G2 at *
            clear hoc hBc HTb HGb
            go_wp2_with fail
            refine (same_self HHc.out HGc.out (by have := HK.out.2.len; omega)).mono ?_
            rintro e we ⟨rfl, hBe⟩
            have HTe := hide (HTc.out.below hBe)
            clear hBe HTc HGc HHc
            go_wp2_with fail
            go_roundw
            case rel => exact ⟨i + 1, d, v2, u, _, M, by omega, rfl, by go_num, hide ⟨HK2.out, HK.out.2⟩, hide (fun h => absurd h (by omega)), HTe⟩
            case measure => simp only [intOf]; omega
          · clear hin
            go_wp2_with fail
            refine (qrows_any HT.out.c.q HK.out.2.len).mono ?_
            rintro e wa ⟨rfl, hoa, hBa⟩
            have HTa := hide (HT.out.below hBa)
            have HGa := hide (Rs.own0 hoa)
            obtain ⟨G, hG⟩ : ∃ G, wr.heap.size = G := ⟨_, rfl⟩
            have hvG : ∀ k, Ft b v k → k < G := fun k hk => by rw [← hG]; exact (HT.out.q.q.ftlt k hk).2
            rw [hG] at HGa ⊢
            clear hoa hBa hG HT
            obtain ⟨⟨c0, c1, c2, c3, c4, c5, c6, c7⟩, hlt⟩ := HO.out _ HTa.out.q.bel
            go_wp2_with fail
            refine (does_any HTa.out.q.q HK.out.1 o).mono ?_
            rintro e wb ⟨rfl, v2, hqb, hmb⟩
            have HTb := hide (HTa.out.does hqb hmb)
            have HGb := hide (HGa.out.keep fun h0 => hmb.block _ (HGa.out.lt h0) fun hf => absurd (hvG _ hf) (by omega))
            have HK2 := hide (HK.out.1.does o)
            clear hqb hmb HTa HGa c0 c1 c2 c3 c4 c5 c6 c7 hvG
            generalize dsB L o = B1
            go_wp2_with fail
            refine (qrows_any HTb.out.c.q HK.out.2.len).mono ?_
            rintro e wc ⟨rfl, hoc, hBc⟩
            have HTc := hide (HTb.out.below hBc)
            have HGc := hide (HGb.out.below hBc)
            have HHc := hide (Rs.own0 hoc)
            generalize wb.heap.size = G2 at *
            clear hoc hBc HTb HGb
            go_wp2_with fail
            refine (same_self HHc.out HGc.out (by have := HK.out.2.len; omega)).mono ?_
            rintro e we ⟨rfl, hBe⟩
            have HTe := hide (HTc.out.below hBe)
            clear hBe HTc HGc HHc
            go_wp2_with fail
            go_roundw
            case rel => exact ⟨i + 1, d, v2, u, _, M, by omega, rfl, by go_num, hide ⟨HK2.out, HK.out.2⟩, hide (fun h => absurd h (by omega)), HTe⟩
            case measure => simp only [intOf]; omega
    · have hii : ¬ (i : Int) < (Q.length : Int) := by omega
      have HB := hide HT.out.q.bel
      clear HT HK HR
      go_wp2_with fail
      refine (fixed_any _).mono ?_
      rintro e w6 ⟨rfl, hB6⟩
      go_wp2_with fail
      go_ret
      exact ⟨rfl, HB.out.trans (hB6.mono HB.out.size)⟩
end Go.Proofs.Ythnmjjlbocofbab
