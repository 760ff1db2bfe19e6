import Derived.Test.YtmkfhcdmcncgkaaSyF
import Derived.Deep.CutBlock
namespace Go.Proofs.Ytmkfhcdmcncgkaa
open Go.RowKit Go.Shelf

set_option maxHeartbeats 16000000 in
set_option maxRecDepth 8000 in
theorem stitchTakes_walk {w : World} {x : Int} (_hx : -9223372036854775808 ≤ x ∧ x ≤ 9223372036854775807) {y : Int} (_hy : -9223372036854775808 ≤ y ∧ y ≤ 9223372036854775807) {ad : Option Addr} {ab ao cap : Nat} {Q : List Oc} (hQ : Sr Oc.cs 4 w ad ab ao Q) (hQl : Q.length ≤ 3518437208780) (hQb : ∀ i (h : i < Q.length), I6 (Q[i]).on ∧ I6 (Q[i]).n) :
    Calls Try.prog 3 #[.int .i64 x, .int .i64 y, .slice ad Q.length cap] w fun e w' => e = .returned (.bool true) ∧ Below w.heap.size w w' := by
  have HQ := hide hQ
  have HQB := hide hQb
  clear hQ hQb
  obtain ⟨iL, hiL, zL0, zL1, zL2⟩ := info_parts Try.infoPl
  obtain ⟨iA, hiA, zA0, zA1, zA2⟩ := info_parts Try.infoPa
  cases hn : nok x y with
  | false =>
    have HN := hide (new_no hn w)
    have HNx := hide (xnew_no hn w)
    go_enter Try.func3, Try.ntmps3
    go_wp2_with fail
    refine HN.out.mono ?_
    rintro e w1 ⟨rfl, rfl⟩
    go_wp2_with fail
    refine HNx.out.mono ?_
    rintro e w1 ⟨rfl, rfl⟩
    go_wp2_with fail
    refine (awake_any _).mono ?_
    rintro e w2 ⟨rfl, hB2⟩
    go_wp2_with fail
    go_ret
    exact ⟨rfl, hB2⟩
  | true =>
    have HN := hide (new_yes hn w)
    have HNx : Hid (∀ W, _) := hide fun W => xnew_yes hn W
    have HNK := hide hn
    clear hn
    go_enter Try.func3, Try.ntmps3
    go_wp2_with fail
    refine HN.out.mono ?_
    rintro e w1 ⟨rfl, hW1, hB1⟩
    obtain ⟨b, hb⟩ : ∃ b, w.heap.size + 1 = b := ⟨_, rfl⟩
    obtain ⟨m, hm⟩ : ∃ m, w.heap.size = m := ⟨_, rfl⟩
    rw [show Value.pointer (some ⟨w.heap.size + 1, 0, none⟩) = Value.pointer (some ⟨b, 0, none⟩) by rw [hb]]
    have HC0 : Hid (Sb w1 b m ⟨x, y, []⟩ ∧ w.heap.size ≤ b ∧ w.heap.size ≤ m) := by rw [hb, hm] at hW1; exact hide ⟨hW1, by omega, by omega⟩
    have HB1 := hide hB1
    clear HN hW1 hB1 hb hm
    go_wp2_with fail
    refine (HNx.out w1).mono ?_
    rintro e w2 ⟨rfl, hX2, hB2⟩
    obtain ⟨xx, hxx⟩ : ∃ xx, w1.heap.size = xx := ⟨_, rfl⟩
    rw [show Value.pointer (some ⟨w1.heap.size, 0, none⟩) = Value.pointer (some ⟨xx, 0, none⟩) by rw [hxx]]
    rw [hxx] at hX2
    have HP2 : Hid (Pr w2 ⟨b, m, xx, ⟨x, y, []⟩⟩) := hide ⟨HC0.out.1.below hB2, ok_new HNK.out, ⟨_, _, hX2, lk_new⟩⟩
    have HLo : Hid (w.heap.size ≤ b ∧ w.heap.size ≤ m ∧ w.heap.size ≤ xx) := hide ⟨HC0.out.2.1, HC0.out.2.2, by have := HB1.out.size; omega⟩
    have HB2 := hide (below_of HB1.out hB2)
    clear HC0 HNx HNK hX2 hB2 hxx HB1
    go_wp2_with fail
    refine (awake_any _).mono ?_
    rintro e w3 ⟨rfl, hB3⟩
    have HP3 := hide (HP2.out.below hB3)
    have HB3 := hide (below_of HB2.out hB3)
    clear hB3 HP2 HB2
    have hbs := HB3.out.size
    have HM : Hid (Mm w (.slice (some ⟨w3.heap.size, 0, none⟩) 1 1) (.slice (some ⟨w3.heap.size + 1, 0, none⟩) 1 1) [⟨b, m, xx, ⟨x, y, []⟩⟩] ((w3.alloc (.cells #[.pointer (some ⟨b, 0, none⟩)] 23)).alloc (.cells #[.pointer (some ⟨xx, 0, none⟩)] 27))) := hide (by
      have s1 := World.size_alloc w3 (.cells #[.pointer (some ⟨b, 0, none⟩)] 23)
      have hb1 := below_alloc w3 (.cells #[.pointer (some ⟨b, 0, none⟩)] 23)
      have hb2 := below_alloc (w3.alloc (.cells #[.pointer (some ⟨b, 0, none⟩)] 23)) (.cells #[.pointer (some ⟨xx, 0, none⟩)] 27)
      have hb : Below w3.heap.size w3 ((w3.alloc (.cells #[.pointer (some ⟨b, 0, none⟩)] 23)).alloc (.cells #[.pointer (some ⟨xx, 0, none⟩)] 27)) := hb1.trans (hb2.mono hb1.size)
      have g1 := (hb2.block w3.heap.size (by rw [s1]; omega)).trans (heap_alloc_new w3 _)
      have g2 := heap_alloc_new (w3.alloc (.cells #[.pointer (some ⟨b, 0, none⟩)] 23)) (.cells #[.pointer (some ⟨xx, 0, none⟩)] 27)
      rw [s1] at g2
      refine ⟨below_of HB3.out hb, ⟨rfl, .inr ⟨w3.heap.size, 1, _, rfl, hbs, g1, Nat.le_refl _, by unfold maxLen; omega, rfl, rfl⟩⟩, ⟨rfl, .inr ⟨w3.heap.size + 1, 1, _, rfl, by omega, g2, Nat.le_refl _, by unfold maxLen; omega, rfl, rfl⟩⟩, ⟨fun i p hi => ?_, fun i p hi => ?_, fun i j p q hi hj hij => ?_⟩⟩
      · have e0 : i = 0 := by
          have := (List.getElem?_eq_some_iff.mp hi).1
          simp at this
          omega
        subst e0
        simp at hi
        subst hi
        exact HP3.out.below hb
      · have e0 : i = 0 := by
          have := (List.getElem?_eq_some_iff.mp hi).1
          simp at this
          omega
        subst e0
        simp at hi
        subst hi
        exact HLo.out
      · have e0 := (List.getElem?_eq_some_iff.mp hi).1
        have e1 := (List.getElem?_eq_some_iff.mp hj).1
        simp at e0 e1
        omega)
    clear HP3 HB3 HLo
    go_wp2_with fail
    generalize (w3.alloc (.cells #[.pointer (some ⟨b, 0, none⟩)] 23)).alloc (.cells #[.pointer (some ⟨xx, 0, none⟩)] 27) = W0 at *
    go_loopw [11, 12, 13, 14, 15, 16] (fun vl va t _ _ _ wr => ∃ (i : Nat) (L : List Pp), i ≤ Q.length ∧ t = .int .i64 (i : Int) ∧ 0 < L.length ∧ L.length ≤ i + 1 ∧ Hid (Mm w vl va L wr)) (fun _ _ t _ _ _ _ => Q.length - (intOf t).toNat)
    case atStart => exact ⟨0, _, Nat.zero_le _, rfl, by simp, by simp, HM⟩
    case round =>
      clear HM
      obtain ⟨i, L, hi, rfl, hL0, hL1, HM⟩ := hrel
      obtain ⟨gl, cl, ga, ca, hvl, hva⟩ := HM.out.form hL0
      subst hvl; subst hva
      by_cases hiq : i < Q.length
      · have hat := HQ.out.at_ (by omega)
        subst hat
        have HRd : Hid (∀ V, Below w.heap.size w V → V.cell? ⟨ab, ao + i * 4, none⟩ = some (.int .i64 (Q[i]).k) ∧ V.cell? ⟨ab, ao + i * 4 + 1, none⟩ = some (.int .i64 (Q[i]).on) ∧ V.cell? ⟨ab, ao + i * 4 + 2, none⟩ = some (.int .i64 (Q[i]).n) ∧ V.cell? ⟨ab, ao + i * 4 + 3, none⟩ = some (.string (Q[i]).tx)) := hide fun V hV => (HQ.out.below (by decide) Oc.cs0 hV).four hiq
        have hlt : ab < wr.heap.size := Nat.lt_of_lt_of_le (HQ.out.lt (by omega) (by decide) Oc.cs0) HM.out.low.size
        obtain ⟨q0, q1, q2, q3⟩ := HRd.out _ HM.out.low
        have HBO := hide (HQB.out i hiq)
        generalize Q[i] = q at *
        have ht1 : q.on.tmod (L.length : Int) < (L.length : Int) := Int.tmod_lt_of_pos _ (by omega)
        have ht2 : -(L.length : Int) < q.on.tmod (L.length : Int) := Int.lt_tmod_of_pos _ (by omega)
        have hL0i : (L.length : Int) ≠ 0 := by omega
        have hL1i : (L.length : Int) ≠ -1 := by omega
        go_upto_region 13 with fail
        generalize q.on.tmod (L.length : Int) = t at *
        go_upto_if 65 with fail
        go_cut [14] (fun u14 wc => ∃ k : Nat, u14 = .int .i64 (k : Int) ∧ k < L.length ∧ wc = wr)
        case first =>
          by_cases h0 : t < 0
          · go_wp2_with fail
            go_meet
            case rel => exact ⟨(t + (L.length : Int)).toNat, by congr 1; omega, by omega, rfl⟩
          · go_wp2_with fail
            go_meet
            case rel => exact ⟨t.toNat, by congr 1; omega, by omega, rfl⟩
        case rest =>
          obtain ⟨k, rfl, hk, hwc⟩ := hcut
          have hwc1 := hwc.symm
          clear hwc
          subst hwc1
          clear ht1 ht2 hL0i hL1i
          obtain ⟨p, hp⟩ : ∃ p, L[k]? = some p := ⟨_, List.getElem?_eq_getElem hk⟩
          have HK := hide hp
          obtain ⟨m0, m1⟩ := HM.out.cl hp
          clear hp
          go_upto_block 2 with fail
          go_cut [11, 12, 15, 16] (fun vl va ok _ wc => ok = .bool true ∧ ∃ L' : List Pp, k < L'.length ∧ L'.length ≤ i + 2 ∧ Hid (Mm w vl va L' wc))
          case first =>
            by_cases hk1 : q.k = 1
            · have e1 : (q.k == 1) = true := by simpa using hk1
              clear hk1
              go_wp2_with fail
              have HS0 : Hid ((fun w' => w'.cell? ⟨gl, k, none⟩ = some (.pointer (some ⟨p.b, 0, none⟩)) ∧ w'.cell? ⟨ga, k, none⟩ = some (.pointer (some ⟨p.x, 0, none⟩)) ∧ w'.cell? ⟨ab, ao + i * 4, none⟩ = some (.int .i64 q.k) ∧ w'.cell? ⟨ab, ao + i * 4 + 1, none⟩ = some (.int .i64 q.on) ∧ w'.cell? ⟨ab, ao + i * 4 + 2, none⟩ = some (.int .i64 q.n) ∧ w'.cell? ⟨ab, ao + i * 4 + 3, none⟩ = some (.string q.tx)) wr.drew) := hide ⟨m0, m1, q0, q1, q2, q3⟩
              have HM := hide (HM.out.below ((Below.refl _ wr).drew))
              have HSS : Hid (∀ V, Mm w (.slice (some ⟨gl, 0, none⟩) L.length cl) (.slice (some ⟨ga, 0, none⟩) L.length ca) (L.set k { p with s := p.s.tk q.n q.tx }) V → (fun w' => w'.cell? ⟨gl, k, none⟩ = some (.pointer (some ⟨p.b, 0, none⟩)) ∧ w'.cell? ⟨ga, k, none⟩ = some (.pointer (some ⟨p.x, 0, none⟩)) ∧ w'.cell? ⟨ab, ao + i * 4, none⟩ = some (.int .i64 q.k) ∧ w'.cell? ⟨ab, ao + i * 4 + 1, none⟩ = some (.int .i64 q.on) ∧ w'.cell? ⟨ab, ao + i * 4 + 2, none⟩ = some (.int .i64 q.n) ∧ w'.cell? ⟨ab, ao + i * 4 + 3, none⟩ = some (.string q.tx)) V) := hide fun V hV => by
                obtain ⟨c0, c1⟩ := cells_of hV (List.getElem?_set_self hk)
                obtain ⟨c2, c3, c4, c5⟩ := HRd.out _ hV.low
                exact ⟨c0, c1, c2, c3, c4, c5⟩
              clear q0 q1 q2 q3 m0 m1
              refine wp_region_held_drew (S := fun w' => w'.cell? ⟨gl, k, none⟩ = some (.pointer (some ⟨p.b, 0, none⟩)) ∧ w'.cell? ⟨ga, k, none⟩ = some (.pointer (some ⟨p.x, 0, none⟩)) ∧ w'.cell? ⟨ab, ao + i * 4, none⟩ = some (.int .i64 q.k) ∧ w'.cell? ⟨ab, ao + i * 4 + 1, none⟩ = some (.int .i64 q.on) ∧ w'.cell? ⟨ab, ao + i * 4 + 2, none⟩ = some (.int .i64 q.n) ∧ w'.cell? ⟨ab, ao + i * 4 + 3, none⟩ = some (.string q.tx)) (by kernel_rfl) (HS0.out) (fun hHeld => ?_)
              refine wpAnyH_take (i := 0) (v := .slice (some ⟨gl, 0, none⟩) L.length cl) rfl (by kernel_rfl) (by kernel_rfl) (by kernel_rfl) (fun _ _ _ h => h) (Or.inl ⟨by kernel_rfl, fun w1 hSw => by clear hHeld; obtain ⟨k0, k1, k2, k3, k4, k5⟩ := hSw; go_simp⟩) hHeld ?_
              try simp only [Act.put]
              try simp only [List.getElem_toArray]
              try simp only [List.getElem_cons_succ]
              try simp only [List.getElem_cons_zero]
              try simp only [List.setIfInBounds_toArray]
              try simp only [List.set_cons_succ, List.set_cons_zero]
              refine wpAnyH_take (i := 1) (v := .int .i64 (k : Int)) rfl (by kernel_rfl) (by kernel_rfl) (by kernel_rfl) (fun _ _ _ h => h) (Or.inl ⟨by kernel_rfl, fun w1 hSw => by clear hHeld; obtain ⟨k0, k1, k2, k3, k4, k5⟩ := hSw; go_simp⟩) hHeld ?_
              try simp only [Act.put]
              try simp only [List.getElem_toArray]
              try simp only [List.getElem_cons_succ]
              try simp only [List.getElem_cons_zero]
              try simp only [List.setIfInBounds_toArray]
              try simp only [List.set_cons_succ, List.set_cons_zero]
              refine wpAnyH_take (i := 2) (v := .pointer (some ⟨gl, k, none⟩)) rfl (by kernel_rfl) (by kernel_rfl) (by kernel_rfl) (fun _ _ _ h => h) (Or.inl ⟨by kernel_rfl, fun w1 hSw => by clear hHeld; obtain ⟨k0, k1, k2, k3, k4, k5⟩ := hSw; go_simp⟩) hHeld ?_
              try simp only [Act.put]
              try simp only [List.getElem_toArray]
              try simp only [List.getElem_cons_succ]
              try simp only [List.getElem_cons_zero]
              try simp only [List.setIfInBounds_toArray]
              try simp only [List.set_cons_succ, List.set_cons_zero]
              refine wpAnyH_take (i := 3) (v := .pointer (some ⟨p.b, 0, none⟩)) rfl (by kernel_rfl) (by kernel_rfl) (by kernel_rfl) (fun _ _ _ h => h) (Or.inl ⟨by kernel_rfl, fun w1 hSw => by clear hHeld; obtain ⟨k0, k1, k2, k3, k4, k5⟩ := hSw; go_simp⟩) hHeld ?_
              try simp only [Act.put]
              try simp only [List.getElem_toArray]
              try simp only [List.getElem_cons_succ]
              try simp only [List.getElem_cons_zero]
              try simp only [List.setIfInBounds_toArray]
              try simp only [List.set_cons_succ, List.set_cons_zero]
              refine wpAnyH_take (i := 4) (v := .slice (some ⟨ga, 0, none⟩) L.length ca) rfl (by kernel_rfl) (by kernel_rfl) (by kernel_rfl) (fun _ _ _ h => h) (Or.inl ⟨by kernel_rfl, fun w1 hSw => by clear hHeld; obtain ⟨k0, k1, k2, k3, k4, k5⟩ := hSw; go_simp⟩) hHeld ?_
              try simp only [Act.put]
              try simp only [List.getElem_toArray]
              try simp only [List.getElem_cons_succ]
              try simp only [List.getElem_cons_zero]
              try simp only [List.setIfInBounds_toArray]
              try simp only [List.set_cons_succ, List.set_cons_zero]
              refine wpAnyH_take (i := 5) (v := .int .i64 (k : Int)) rfl (by kernel_rfl) (by kernel_rfl) (by kernel_rfl) (fun _ _ _ h => h) (Or.inl ⟨by kernel_rfl, fun w1 hSw => by clear hHeld; obtain ⟨k0, k1, k2, k3, k4, k5⟩ := hSw; go_simp⟩) hHeld ?_
              try simp only [Act.put]
              try simp only [List.getElem_toArray]
              try simp only [List.getElem_cons_succ]
              try simp only [List.getElem_cons_zero]
              try simp only [List.setIfInBounds_toArray]
              try simp only [List.set_cons_succ, List.set_cons_zero]
              refine wpAnyH_take (i := 6) (v := .pointer (some ⟨ga, k, none⟩)) rfl (by kernel_rfl) (by kernel_rfl) (by kernel_rfl) (fun _ _ _ h => h) (Or.inl ⟨by kernel_rfl, fun w1 hSw => by clear hHeld; obtain ⟨k0, k1, k2, k3, k4, k5⟩ := hSw; go_simp⟩) hHeld ?_
              try simp only [Act.put]
              try simp only [List.getElem_toArray]
              try simp only [List.getElem_cons_succ]
              try simp only [List.getElem_cons_zero]
              try simp only [List.setIfInBounds_toArray]
              try simp only [List.set_cons_succ, List.set_cons_zero]
              refine wpAnyH_take (i := 7) (v := .pointer (some ⟨p.x, 0, none⟩)) rfl (by kernel_rfl) (by kernel_rfl) (by kernel_rfl) (fun _ _ _ h => h) (Or.inl ⟨by kernel_rfl, fun w1 hSw => by clear hHeld; obtain ⟨k0, k1, k2, k3, k4, k5⟩ := hSw; go_simp⟩) hHeld ?_
              try simp only [Act.put]
              try simp only [List.getElem_toArray]
              try simp only [List.getElem_cons_succ]
              try simp only [List.getElem_cons_zero]
              try simp only [List.setIfInBounds_toArray]
              try simp only [List.set_cons_succ, List.set_cons_zero]
              refine wpAnyH_take (i := 8) (v := .slice (some ⟨ab, ao, none⟩) Q.length cap) rfl (by kernel_rfl) (by kernel_rfl) (by kernel_rfl) (fun _ _ _ h => h) (Or.inl ⟨by kernel_rfl, fun w1 hSw => by clear hHeld; obtain ⟨k0, k1, k2, k3, k4, k5⟩ := hSw; go_simp⟩) hHeld ?_
              try simp only [Act.put]
              try simp only [List.getElem_toArray]
              try simp only [List.getElem_cons_succ]
              try simp only [List.getElem_cons_zero]
              try simp only [List.setIfInBounds_toArray]
              try simp only [List.set_cons_succ, List.set_cons_zero]
              refine wpAnyH_take (i := 9) (v := .int .i64 (i : Int)) rfl (by kernel_rfl) (by kernel_rfl) (by kernel_rfl) (fun _ _ _ h => h) (Or.inl ⟨by kernel_rfl, fun w1 hSw => by clear hHeld; obtain ⟨k0, k1, k2, k3, k4, k5⟩ := hSw; go_simp⟩) hHeld ?_
              try simp only [Act.put]
              try simp only [List.getElem_toArray]
              try simp only [List.getElem_cons_succ]
              try simp only [List.getElem_cons_zero]
              try simp only [List.setIfInBounds_toArray]
              try simp only [List.set_cons_succ, List.set_cons_zero]
              refine wpAnyH_take (i := 10) (v := .pointer (some ⟨ab, ao + i * 4, none⟩)) rfl (by kernel_rfl) (by kernel_rfl) (by kernel_rfl) (fun _ _ _ h => h) (Or.inl ⟨by kernel_rfl, fun w1 hSw => by clear hHeld; obtain ⟨k0, k1, k2, k3, k4, k5⟩ := hSw; go_simp⟩) hHeld ?_
              try simp only [Act.put]
              try simp only [List.getElem_toArray]
              try simp only [List.getElem_cons_succ]
              try simp only [List.getElem_cons_zero]
              try simp only [List.setIfInBounds_toArray]
              try simp only [List.set_cons_succ, List.set_cons_zero]
              refine wpAnyH_take (i := 11) (v := q.val) rfl (by kernel_rfl) (by kernel_rfl) (by kernel_rfl) (fun _ _ _ h => h) (Or.inl ⟨by kernel_rfl, fun w1 hSw => by clear hHeld; obtain ⟨k0, k1, k2, k3, k4, k5⟩ := hSw; go_simp⟩) hHeld ?_
              try simp only [Act.put]
              try simp only [List.getElem_toArray]
              try simp only [List.getElem_cons_succ]
              try simp only [List.getElem_cons_zero]
              try simp only [List.setIfInBounds_toArray]
              try simp only [List.set_cons_succ, List.set_cons_zero]
              refine wpAnyH_ready (rs := [12]) (by kernel_rfl) (by simp) ?_
              refine AllReadyH.cons rfl (fun K hK => ?_) AllReadyH.nil
              go_simp
              refine (takes_any (HM.out.kp.pr k p HK.out) q).mono ?_
              rintro e V1 ⟨rfl, hp1, hm1⟩
              have HM1 := hide (HM.out.step HK.out (p' := ⟨0, 0, 0, p.s.tk q.n q.tx⟩) hp1 hm1)
              have HS1 := hide (HSS.out V1 HM1.out)
              clear hp1 hm1
              refine hK.out _ _ (HS1.out) (fun hHeld => ?_)
              clear hK K
              try simp only [Act.put]
              try simp only [List.getElem_toArray]
              try simp only [List.getElem_cons_succ]
              try simp only [List.getElem_cons_zero]
              try simp only [List.setIfInBounds_toArray]
              try simp only [List.set_cons_succ, List.set_cons_zero]
              refine wpAnyH_take (i := 13) (v := .bool true) rfl (by kernel_rfl) (by kernel_rfl) (by kernel_rfl) (fun _ _ _ h => h) (Or.inl ⟨by kernel_rfl, fun w1 hSw => by clear hHeld; obtain ⟨k0, k1, k2, k3, k4, k5⟩ := hSw; go_simp⟩) hHeld ?_
              try simp only [Act.put]
              try simp only [List.getElem_toArray]
              try simp only [List.getElem_cons_succ]
              try simp only [List.getElem_cons_zero]
              try simp only [List.setIfInBounds_toArray]
              try simp only [List.set_cons_succ, List.set_cons_zero]
              refine wpAnyH_done (by kernel_rfl) ?_ _
              go_wp2_with fail
              go_meet
              case rel => exact ⟨rfl, L.set k { p with s := p.s.tk q.n q.tx }, by rw [List.length_set]; exact hk, by rw [List.length_set]; omega, HM1⟩
            · have e1 : (q.k == 1) = false := by simpa using hk1
              clear hk1
              by_cases hk2 : q.k = 2
              · have e2 : (q.k == 2) = true := by simpa using hk2
                clear hk2
                have HP := hide (HM.out.kp.pr k p HK.out)
                obtain ⟨H, T, hX, hLk⟩ := HP.out.xs
                obtain ⟨c, hc⟩ : ∃ c, (xcs p.s.win p.s.nxt H T).toArray = c := ⟨_, rfl⟩
                obtain ⟨zc, hzc⟩ : ∃ zc : Array Value, zc = (xcs 0 0 (List.replicate 32 false) (List.replicate 32 ByteArray.empty)).toArray := ⟨_, rfl⟩
                have hZV : ∀ w, (zeroValue 39).run Try.prog w = .ok (.agg zc) w := fun w => by rw [hzc]; kernel_rfl
                have hzs : zc.size = 66 := by rw [hzc]; rfl
                have hcs : c.size = 66 := by rw [← hc, List.size_toArray]; exact xcs_len hX.hl hX.tl
                have hXb := hX.blk
                rw [hc] at hXb
                have HXb := hide hXb
                have HC1 : Hid (c.all (·.oneCell') = true) := hide (by rw [← hc]; exact xcs_one _ _ _ _)
                have HA := hide (below_alloc wr (.cells c 39))
                have hsA : (wr.alloc (.cells c 39)).heap.size = wr.heap.size + 1 := World.size_alloc _ _
                have HXA : Hid (Xs (wr.alloc (.cells c 39)) wr.heap.size p.s) := hide ⟨H, T, ⟨by rw [hc]; exact heap_alloc_new wr _, hX.hl, hX.tl⟩, hLk⟩
                have HMA := hide (HM.out.below HA.out)
                have HPA := hide (HP.out.below HA.out)
                have hlo := HM.out.low.size
                have HNb : Hid (∀ (i : Nat) q, L[i]? = some q → q.b < wr.heap.size ∧ q.m < wr.heap.size ∧ q.x < wr.heap.size) := hide fun i q hq => (HM.out.kp.pr i q hq).lt
                have hzn : zc ≠ #[] := fun e => by rw [e] at hzs; cases hzs
                have hcn : c ≠ #[] := fun e => by rw [e] at hcs; cases hcs
                have hxl := HP.out.lt.2.2
                have hgll := (HM.out.rl.lt gl rfl).2
                have hgal := (HM.out.ra.lt ga rfl).2
                clear hX hLk hc hzc hXb HP HM
                go_upto_region 20 with fail
                apply wp_region_lit
                iterate 15 go_step
                refine list_value rfl (load_op HXb.out hcs rfl rfl) ?_
                simp only [Act.put, List.setIfInBounds_toArray, List.set_cons_succ, List.set_cons_zero]
                iterate 3 go_step
                refine list_skip rfl (store_op hzs hcs HC1.out rfl rfl rfl) ?_
                simp only [Act.put]
                clear HXb HC1 hZV
                obtain ⟨x', hx'⟩ : ∃ x', wr.heap.size = x' := ⟨_, rfl⟩
                have HX' := hide hx'
                have HCl := hide (clone_any HPA.out.sb)
                rw [hsA, hx'] at HCl
                rw [hx'] at HXA ⊢
                rw [hx'] at HNb hlo hsA hxl hgll hgal hlt
                obtain ⟨m0, m1⟩ := HMA.out.cl HK.out
                generalize wr.alloc (.cells c 39) = wA at *
                have HSA := hide hsA
                clear hsA hx' HA
                go_wp2_with fail
                refine HCl.out.mono ?_
                rintro e w5 ⟨rfl, hS5, hB5⟩
                have hB5' : Below wA.heap.size wA w5 := by rw [HSA.out]; exact hB5
                have hsz5 : x' + 1 ≤ w5.heap.size := by have := hB5.size; rw [HSA.out] at this; exact this
                have HM5 := hide (HMA.out.below hB5')
                obtain ⟨b', hb'⟩ : ∃ b', x' + 1 + 1 = b' := ⟨_, rfl⟩
                rw [show Value.pointer (some ⟨x' + 1 + 1, 0, none⟩) = Value.pointer (some ⟨b', 0, none⟩) by rw [hb']]
                rw [hb'] at hS5
                obtain ⟨p1, hp1⟩ : ∃ p1, (⟨b', x' + 1, x', p.s⟩ : Pp) = p1 := ⟨_, rfl⟩
                have HK5 : Hid (Kp w (L ++ [p1]) w5) := hide (by
                  rw [← hp1]
                  refine HM5.out.kp.push ⟨hS5, HPA.out.ok, HXA.out.below hB5'⟩ ⟨by show w.heap.size ≤ b'; omega, by show w.heap.size ≤ x' + 1; omega, hlo⟩ fun i q hq => ?_
                  have := HNb.out i q hq
                  exact ⟨by show q.b ≠ b'; omega, by show q.m ≠ x' + 1; omega, by show q.x ≠ x'; omega⟩)
                have HPb : Hid (pbs (L ++ [p1]) = pbs L ++ [.pointer (some ⟨b', 0, none⟩)]) := hide (by unfold pbs; rw [List.map_append, ← hp1]; rfl)
                have HPx : Hid (pxs (L ++ [p1]) = pxs L ++ [.pointer (some ⟨x', 0, none⟩)]) := hide (by unfold pxs; rw [List.map_append, ← hp1]; rfl)
                have HRl5 : Hid ((w5.alloc (.cells #[.pointer (some ⟨b', 0, none⟩)] 23)).ownsRow w.heap.size 23 1 (.slice (some ⟨gl, 0, none⟩) L.length cl) L.length (pbs L)) := hide (own_below HM5.out.rl (below_alloc w5 _))
                have HRa5 : Hid ((w5.alloc (.cells #[.pointer (some ⟨b', 0, none⟩)] 23)).ownsRow w.heap.size 27 1 (.slice (some ⟨ga, 0, none⟩) L.length ca) L.length (pxs L)) := hide (own_below HM5.out.ra (below_alloc w5 _))
                have HK6 := hide (HK5.out.below (below_alloc w5 (.cells #[.pointer (some ⟨b', 0, none⟩)] 23)))
                have HB5 := hide HM5.out.low
                have hb5 := HB5.out.size
                have HB6 := hide (HB5.out.alloc hb5 (.cells #[.pointer (some ⟨b', 0, none⟩)] 23))
                have hLb : L.length ≤ 3518437208781 := by omega
                have HX5 : Hid (x' < w5.heap.size) := hide (by omega)
                clear hS5 hB5 hB5' HCl m0 m1 HNb HMA HPA HXA HM5 hb' hp1 HK5 HSA HX' hsz5
                go_wp2_with (first
                  | (at_builtin; refine wpList_append_lies _ rfl (.tmp 98) (.tmp 104) 31 rfl w.heap.size 23 iL (.pointer none) 1 8 Try.underlying31 hiL zL0 zL1 zL2 rfl (by decide) (.slice (some ⟨gl, 0, none⟩) L.length cl) L.length (pbs L) rfl HRl5.out ⟨w5.heap.size, 0, none⟩ 1 1 [.pointer (some ⟨b', 0, none⟩)] rfl rfl (one_new _ _ _) (by intro u hu; simp at hu; subst hu; rfl) (by decide) (by unfold maxLen; omega) (by omega) (by rw [World.size_alloc]; omega) _ rfl ?_; intro g7 cap7 w7 hown7 hgr7 hat7 hlt7; have HRl7 := hide hown7; have HRa7 := hide (own_row HRa5.out HRl5.out hgr7 (by decide)); have HK7 := hide (HK6.out.row HRl5.out hgr7 (by decide) (by decide)); have HB7 := hide (HB6.out.grown hgr7 (by rw [World.size_alloc]; omega) (fun k hk => (HRl5.out.lt k hk).1)); have hb7 := HB7.out.size; have HRa8 : Hid ((w7.alloc (.cells #[.pointer (some ⟨x', 0, none⟩)] 27)).ownsRow w.heap.size 27 1 (.slice (some ⟨ga, 0, none⟩) L.length ca) L.length (pxs L)) := hide (own_below HRa7.out (below_alloc w7 _)); have HRl8 : Hid ((w7.alloc (.cells #[.pointer (some ⟨x', 0, none⟩)] 27)).ownsRow w.heap.size 23 1 (.slice (some ⟨g7, 0, none⟩) (L.length + 1) cap7) (L.length + 1) (pbs L ++ [.pointer (some ⟨b', 0, none⟩)])) := hide (own_below HRl7.out (below_alloc w7 _)); have HK8 := hide (HK7.out.below (below_alloc w7 (.cells #[.pointer (some ⟨x', 0, none⟩)] 27))); have HB8 := hide (HB7.out.alloc hb7 (.cells #[.pointer (some ⟨x', 0, none⟩)] 27)); clear hown7 hgr7 hat7 hlt7)
                  | (at_builtin; refine wpList_append_lies _ rfl (.tmp 106) (.tmp 107) 32 rfl w.heap.size 27 iA (.pointer none) 1 8 Try.underlying32 hiA zA0 zA1 zA2 rfl (by decide) (.slice (some ⟨ga, 0, none⟩) L.length ca) L.length (pxs L) rfl HRa8.out ⟨w7.heap.size, 0, none⟩ 1 1 [.pointer (some ⟨x', 0, none⟩)] rfl rfl (one_new _ _ _) (by intro u hu; simp at hu; subst hu; rfl) (by decide) (by unfold maxLen; omega) (by omega) (by rw [World.size_alloc]; omega) _ rfl ?_; intro g9 cap9 w9 hown9 hgr9 hat9 hlt9; have HRa9 := hide hown9; have HRl9 := hide (own_row HRl8.out HRa8.out hgr9 (by decide)); have HK9 := hide (HK8.out.row HRa8.out hgr9 (by decide) (by decide)); have HB9 := hide (HB8.out.grown hgr9 (by rw [World.size_alloc]; omega) (fun k hk => (HRa8.out.lt k hk).1)); have y9 := last_cell HRl9.out; have hg9 := (HRl9.out.lt g7 rfl).2; have HM9 : Hid (Mm w (.slice (some ⟨g7, 0, none⟩) (L ++ [p1]).length cap7) (.slice (some ⟨g9, 0, none⟩) (L ++ [p1]).length cap9) (L ++ [p1]) w9) := hide (by rw [show (L ++ [p1]).length = L.length + 1 by simp]; exact ⟨HB9.out, by rw [show (L ++ [p1]).length = L.length + 1 by simp, HPb.out]; exact HRl9.out, by rw [show (L ++ [p1]).length = L.length + 1 by simp, HPx.out]; exact HRa9.out, HK9.out⟩); clear hown9 hgr9 hat9 hlt9))
                go_meet
                case rel => exact ⟨rfl, L ++ [p1], by simp; omega, by simp; omega, by have := HM9.out; rw [show (L ++ [p1]).length = L.length + 1 by simp] at this; exact hide this⟩
              · have e2 : (q.k == 2) = false := by simpa using hk2
                clear hk2
                go_wp2_with fail
                go_meet
                case rel => exact ⟨rfl, L, hk, by omega, HM⟩
          case rest =>
          obtain ⟨rfl, L2, hk2, hl2, HM2⟩ := hcut
          clear HM HK m0 m1 q0 q1 q2 q3 hk hL0 hL1
          obtain ⟨L, hLL⟩ : ∃ L, L = L2 := ⟨_, rfl⟩
          subst hLL
          obtain ⟨gl, cl, ga, ca, hvl, hva⟩ := HM2.out.form (by omega)
          subst hvl; subst hva
          obtain ⟨p, hp⟩ : ∃ p, L[k]? = some p := ⟨_, List.getElem?_eq_getElem hk2⟩
          have HK := hide hp
          obtain ⟨m0, m1⟩ := HM2.out.cl hp
          clear hp
          go_wp2_with fail
          have HS0 : Hid (wc.drew.cell? ⟨gl, k, none⟩ = some (.pointer (some ⟨p.b, 0, none⟩)) ∧ wc.drew.cell? ⟨ga, k, none⟩ = some (.pointer (some ⟨p.x, 0, none⟩))) := hide ⟨m0, m1⟩
          have HM := hide (HM2.out.below ((Below.refl _ wc).drew))
          clear m0 m1 HM2
          refine wp_region_held_drew (S := fun w' => w'.cell? ⟨gl, k, none⟩ = some (.pointer (some ⟨p.b, 0, none⟩)) ∧ w'.cell? ⟨ga, k, none⟩ = some (.pointer (some ⟨p.x, 0, none⟩))) (by kernel_rfl) (HS0.out) (fun hHeld => ?_)
          refine wpAnyH_take (i := 0) (v := .bool true) rfl (by kernel_rfl) (by kernel_rfl) (by kernel_rfl) (fun _ _ _ h => h) (Or.inl ⟨by kernel_rfl, fun w1 hSw => by clear hHeld; obtain ⟨k0, k1⟩ := hSw; go_simp⟩) hHeld ?_
          try simp only [Act.put]
          try simp only [List.getElem_toArray]
          try simp only [List.getElem_cons_succ]
          try simp only [List.getElem_cons_zero]
          try simp only [List.setIfInBounds_toArray]
          try simp only [List.set_cons_succ, List.set_cons_zero]
          refine wpAnyH_take (i := 1) (v := .bool false) rfl (by kernel_rfl) (by kernel_rfl) (by kernel_rfl) (fun _ _ _ h => h) (Or.inl ⟨by kernel_rfl, fun w1 hSw => by clear hHeld; obtain ⟨k0, k1⟩ := hSw; go_simp⟩) hHeld ?_
          try simp only [Act.put]
          try simp only [List.getElem_toArray]
          try simp only [List.getElem_cons_succ]
          try simp only [List.getElem_cons_zero]
          try simp only [List.setIfInBounds_toArray]
          try simp only [List.set_cons_succ, List.set_cons_zero]
          refine wpAnyH_take (i := 2) (v := .bool false) rfl (by kernel_rfl) (by kernel_rfl) (by kernel_rfl) (fun _ _ _ h => h) (Or.inl ⟨by kernel_rfl, fun w1 hSw => by clear hHeld; obtain ⟨k0, k1⟩ := hSw; go_simp⟩) hHeld ?_
          try simp only [Act.put]
          try simp only [List.getElem_toArray]
          try simp only [List.getElem_cons_succ]
          try simp only [List.getElem_cons_zero]
          try simp only [List.setIfInBounds_toArray]
          try simp only [List.set_cons_succ, List.set_cons_zero]
          refine wpAnyH_take (i := 3) (v := .slice (some ⟨gl, 0, none⟩) L.length cl) rfl (by kernel_rfl) (by kernel_rfl) (by kernel_rfl) (fun _ _ _ h => h) (Or.inl ⟨by kernel_rfl, fun w1 hSw => by clear hHeld; obtain ⟨k0, k1⟩ := hSw; go_simp⟩) hHeld ?_
          try simp only [Act.put]
          try simp only [List.getElem_toArray]
          try simp only [List.getElem_cons_succ]
          try simp only [List.getElem_cons_zero]
          try simp only [List.setIfInBounds_toArray]
          try simp only [List.set_cons_succ, List.set_cons_zero]
          refine wpAnyH_take (i := 4) (v := .int .i64 (k : Int)) rfl (by kernel_rfl) (by kernel_rfl) (by kernel_rfl) (fun _ _ _ h => h) (Or.inl ⟨by kernel_rfl, fun w1 hSw => by clear hHeld; obtain ⟨k0, k1⟩ := hSw; go_simp⟩) hHeld ?_
          try simp only [Act.put]
          try simp only [List.getElem_toArray]
          try simp only [List.getElem_cons_succ]
          try simp only [List.getElem_cons_zero]
          try simp only [List.setIfInBounds_toArray]
          try simp only [List.set_cons_succ, List.set_cons_zero]
          refine wpAnyH_take (i := 5) (v := .pointer (some ⟨gl, k, none⟩)) rfl (by kernel_rfl) (by kernel_rfl) (by kernel_rfl) (fun _ _ _ h => h) (Or.inl ⟨by kernel_rfl, fun w1 hSw => by clear hHeld; obtain ⟨k0, k1⟩ := hSw; go_simp⟩) hHeld ?_
          try simp only [Act.put]
          try simp only [List.getElem_toArray]
          try simp only [List.getElem_cons_succ]
          try simp only [List.getElem_cons_zero]
          try simp only [List.setIfInBounds_toArray]
          try simp only [List.set_cons_succ, List.set_cons_zero]
          refine wpAnyH_take (i := 6) (v := .pointer (some ⟨p.b, 0, none⟩)) rfl (by kernel_rfl) (by kernel_rfl) (by kernel_rfl) (fun _ _ _ h => h) (Or.inl ⟨by kernel_rfl, fun w1 hSw => by clear hHeld; obtain ⟨k0, k1⟩ := hSw; go_simp⟩) hHeld ?_
          try simp only [Act.put]
          try simp only [List.getElem_toArray]
          try simp only [List.getElem_cons_succ]
          try simp only [List.getElem_cons_zero]
          try simp only [List.setIfInBounds_toArray]
          try simp only [List.set_cons_succ, List.set_cons_zero]
          refine wpAnyH_take (i := 7) (v := .slice (some ⟨ga, 0, none⟩) L.length ca) rfl (by kernel_rfl) (by kernel_rfl) (by kernel_rfl) (fun _ _ _ h => h) (Or.inl ⟨by kernel_rfl, fun w1 hSw => by clear hHeld; obtain ⟨k0, k1⟩ := hSw; go_simp⟩) hHeld ?_
          try simp only [Act.put]
          try simp only [List.getElem_toArray]
          try simp only [List.getElem_cons_succ]
          try simp only [List.getElem_cons_zero]
          try simp only [List.setIfInBounds_toArray]
          try simp only [List.set_cons_succ, List.set_cons_zero]
          refine wpAnyH_take (i := 8) (v := .int .i64 (k : Int)) rfl (by kernel_rfl) (by kernel_rfl) (by kernel_rfl) (fun _ _ _ h => h) (Or.inl ⟨by kernel_rfl, fun w1 hSw => by clear hHeld; obtain ⟨k0, k1⟩ := hSw; go_simp⟩) hHeld ?_
          try simp only [Act.put]
          try simp only [List.getElem_toArray]
          try simp only [List.getElem_cons_succ]
          try simp only [List.getElem_cons_zero]
          try simp only [List.setIfInBounds_toArray]
          try simp only [List.set_cons_succ, List.set_cons_zero]
          refine wpAnyH_take (i := 9) (v := .pointer (some ⟨ga, k, none⟩)) rfl (by kernel_rfl) (by kernel_rfl) (by kernel_rfl) (fun _ _ _ h => h) (Or.inl ⟨by kernel_rfl, fun w1 hSw => by clear hHeld; obtain ⟨k0, k1⟩ := hSw; go_simp⟩) hHeld ?_
          try simp only [Act.put]
          try simp only [List.getElem_toArray]
          try simp only [List.getElem_cons_succ]
          try simp only [List.getElem_cons_zero]
          try simp only [List.setIfInBounds_toArray]
          try simp only [List.set_cons_succ, List.set_cons_zero]
          refine wpAnyH_take (i := 10) (v := .pointer (some ⟨p.x, 0, none⟩)) rfl (by kernel_rfl) (by kernel_rfl) (by kernel_rfl) (fun _ _ _ h => h) (Or.inl ⟨by kernel_rfl, fun w1 hSw => by clear hHeld; obtain ⟨k0, k1⟩ := hSw; go_simp⟩) hHeld ?_
          try simp only [Act.put]
          try simp only [List.getElem_toArray]
          try simp only [List.getElem_cons_succ]
          try simp only [List.getElem_cons_zero]
          try simp only [List.setIfInBounds_toArray]
          try simp only [List.set_cons_succ, List.set_cons_zero]
          refine wpAnyH_ready (rs := [11]) (by kernel_rfl) (by simp) ?_
          refine AllReadyH.cons rfl (fun K hK => ?_) AllReadyH.nil
          go_simp
          refine (stands_any (HM.out.kp.pr k p HK.out)).mono ?_
          rintro e V2 ⟨rfl, hb2⟩
          have HM2 := hide (HM.out.below hb2)
          have HS2 := hide (HM2.out.cl HK.out)
          clear hb2
          refine hK.out _ _ (HS2.out) (fun hHeld => ?_)
          clear hK K
          try simp only [Act.put]
          try simp only [List.getElem_toArray]
          try simp only [List.getElem_cons_succ]
          try simp only [List.getElem_cons_zero]
          try simp only [List.setIfInBounds_toArray]
          try simp only [List.set_cons_succ, List.set_cons_zero]
          refine wpAnyH_take (i := 12) (v := .bool false) rfl (by kernel_rfl) (by kernel_rfl) (by kernel_rfl) (fun _ _ _ h => h) (Or.inl ⟨by kernel_rfl, fun w1 hSw => by clear hHeld; obtain ⟨k0, k1⟩ := hSw; go_simp⟩) hHeld ?_
          try simp only [Act.put]
          try simp only [List.getElem_toArray]
          try simp only [List.getElem_cons_succ]
          try simp only [List.getElem_cons_zero]
          try simp only [List.setIfInBounds_toArray]
          try simp only [List.set_cons_succ, List.set_cons_zero]
          refine wpAnyH_take (i := 13) (v := .bool false) rfl (by kernel_rfl) (by kernel_rfl) (by kernel_rfl) (fun _ _ _ h => h) (Or.inl ⟨by kernel_rfl, fun w1 hSw => by clear hHeld; obtain ⟨k0, k1⟩ := hSw; go_simp⟩) hHeld ?_
          try simp only [Act.put]
          try simp only [List.getElem_toArray]
          try simp only [List.getElem_cons_succ]
          try simp only [List.getElem_cons_zero]
          try simp only [List.setIfInBounds_toArray]
          try simp only [List.set_cons_succ, List.set_cons_zero]
          refine wpAnyH_done (by kernel_rfl) ?_ _
          go_wp2_with fail
          go_roundw
          case rel => exact ⟨i + 1, L, by omega, by go_num, by omega, by omega, HM2⟩
          case measure => simp only [intOf]; omega
      · clear HQ HQB
        go_wp2_with fail
        go_loopw [17] (fun t wx => ∃ k : Nat, t = .int .i64 (k : Int) ∧ k ≤ L.length ∧ Hid (Mm w (.slice (some ⟨gl, 0, none⟩) L.length cl) (.slice (some ⟨ga, 0, none⟩) L.length ca) L wx)) (fun t _ => L.length - (intOf t).toNat)
        case atStart => exact ⟨0, rfl, Nat.zero_le _, HM⟩
        case round =>
          clear HM
          obtain ⟨k, rfl, hk, HM0⟩ := hrel
          by_cases hkl : k < L.length
          · obtain ⟨p, hp⟩ : ∃ p, L[k]? = some p := ⟨_, List.getElem?_eq_getElem hkl⟩
            have HK := hide hp
            obtain ⟨m0, m1⟩ := HM0.out.cl hp
            clear hp
            go_wp2_with fail
            have HS0 : Hid (wr.drew.cell? ⟨gl, k, none⟩ = some (.pointer (some ⟨p.b, 0, none⟩)) ∧ wr.drew.cell? ⟨ga, k, none⟩ = some (.pointer (some ⟨p.x, 0, none⟩))) := hide ⟨m0, m1⟩
            have HM := hide (HM0.out.below ((Below.refl _ wr).drew))
            clear m0 m1 HM0
            refine wp_region_held_drew (S := fun w' => w'.cell? ⟨gl, k, none⟩ = some (.pointer (some ⟨p.b, 0, none⟩)) ∧ w'.cell? ⟨ga, k, none⟩ = some (.pointer (some ⟨p.x, 0, none⟩))) (by kernel_rfl) (HS0.out) (fun hHeld => ?_)
            refine wpAnyH_take (i := 0) (v := .slice (some ⟨gl, 0, none⟩) L.length cl) rfl (by kernel_rfl) (by kernel_rfl) (by kernel_rfl) (fun _ _ _ h => h) (Or.inl ⟨by kernel_rfl, fun w1 hSw => by clear hHeld; obtain ⟨k0, k1⟩ := hSw; go_simp⟩) hHeld ?_
            try simp only [Act.put]
            try simp only [List.getElem_toArray]
            try simp only [List.getElem_cons_succ]
            try simp only [List.getElem_cons_zero]
            try simp only [List.setIfInBounds_toArray]
            try simp only [List.set_cons_succ, List.set_cons_zero]
            refine wpAnyH_take (i := 1) (v := .int .i64 (k : Int)) rfl (by kernel_rfl) (by kernel_rfl) (by kernel_rfl) (fun _ _ _ h => h) (Or.inl ⟨by kernel_rfl, fun w1 hSw => by clear hHeld; obtain ⟨k0, k1⟩ := hSw; go_simp⟩) hHeld ?_
            try simp only [Act.put]
            try simp only [List.getElem_toArray]
            try simp only [List.getElem_cons_succ]
            try simp only [List.getElem_cons_zero]
            try simp only [List.setIfInBounds_toArray]
            try simp only [List.set_cons_succ, List.set_cons_zero]
            refine wpAnyH_take (i := 2) (v := .pointer (some ⟨gl, k, none⟩)) rfl (by kernel_rfl) (by kernel_rfl) (by kernel_rfl) (fun _ _ _ h => h) (Or.inl ⟨by kernel_rfl, fun w1 hSw => by clear hHeld; obtain ⟨k0, k1⟩ := hSw; go_simp⟩) hHeld ?_
            try simp only [Act.put]
            try simp only [List.getElem_toArray]
            try simp only [List.getElem_cons_succ]
            try simp only [List.getElem_cons_zero]
            try simp only [List.setIfInBounds_toArray]
            try simp only [List.set_cons_succ, List.set_cons_zero]
            refine wpAnyH_take (i := 3) (v := .pointer (some ⟨p.b, 0, none⟩)) rfl (by kernel_rfl) (by kernel_rfl) (by kernel_rfl) (fun _ _ _ h => h) (Or.inl ⟨by kernel_rfl, fun w1 hSw => by clear hHeld; obtain ⟨k0, k1⟩ := hSw; go_simp⟩) hHeld ?_
            try simp only [Act.put]
            try simp only [List.getElem_toArray]
            try simp only [List.getElem_cons_succ]
            try simp only [List.getElem_cons_zero]
            try simp only [List.setIfInBounds_toArray]
            try simp only [List.set_cons_succ, List.set_cons_zero]
            refine wpAnyH_take (i := 4) (v := .slice (some ⟨ga, 0, none⟩) L.length ca) rfl (by kernel_rfl) (by kernel_rfl) (by kernel_rfl) (fun _ _ _ h => h) (Or.inl ⟨by kernel_rfl, fun w1 hSw => by clear hHeld; obtain ⟨k0, k1⟩ := hSw; go_simp⟩) hHeld ?_
            try simp only [Act.put]
            try simp only [List.getElem_toArray]
            try simp only [List.getElem_cons_succ]
            try simp only [List.getElem_cons_zero]
            try simp only [List.setIfInBounds_toArray]
            try simp only [List.set_cons_succ, List.set_cons_zero]
            refine wpAnyH_take (i := 5) (v := .int .i64 (k : Int)) rfl (by kernel_rfl) (by kernel_rfl) (by kernel_rfl) (fun _ _ _ h => h) (Or.inl ⟨by kernel_rfl, fun w1 hSw => by clear hHeld; obtain ⟨k0, k1⟩ := hSw; go_simp⟩) hHeld ?_
            try simp only [Act.put]
            try simp only [List.getElem_toArray]
            try simp only [List.getElem_cons_succ]
            try simp only [List.getElem_cons_zero]
            try simp only [List.setIfInBounds_toArray]
            try simp only [List.set_cons_succ, List.set_cons_zero]
            refine wpAnyH_take (i := 6) (v := .pointer (some ⟨ga, k, none⟩)) rfl (by kernel_rfl) (by kernel_rfl) (by kernel_rfl) (fun _ _ _ h => h) (Or.inl ⟨by kernel_rfl, fun w1 hSw => by clear hHeld; obtain ⟨k0, k1⟩ := hSw; go_simp⟩) hHeld ?_
            try simp only [Act.put]
            try simp only [List.getElem_toArray]
            try simp only [List.getElem_cons_succ]
            try simp only [List.getElem_cons_zero]
            try simp only [List.setIfInBounds_toArray]
            try simp only [List.set_cons_succ, List.set_cons_zero]
            refine wpAnyH_take (i := 7) (v := .pointer (some ⟨p.x, 0, none⟩)) rfl (by kernel_rfl) (by kernel_rfl) (by kernel_rfl) (fun _ _ _ h => h) (Or.inl ⟨by kernel_rfl, fun w1 hSw => by clear hHeld; obtain ⟨k0, k1⟩ := hSw; go_simp⟩) hHeld ?_
            try simp only [Act.put]
            try simp only [List.getElem_toArray]
            try simp only [List.getElem_cons_succ]
            try simp only [List.getElem_cons_zero]
            try simp only [List.setIfInBounds_toArray]
            try simp only [List.set_cons_succ, List.set_cons_zero]
            refine wpAnyH_ready (rs := [8]) (by kernel_rfl) (by simp) ?_
            refine AllReadyH.cons rfl (fun K hK => ?_) AllReadyH.nil
            go_simp
            refine (stands_any (HM.out.kp.pr k p HK.out)).mono ?_
            rintro e V2 ⟨rfl, hb2⟩
            have HM2 := hide (HM.out.below hb2)
            have HS2 := hide (HM2.out.cl HK.out)
            clear hb2
            refine hK.out _ _ (HS2.out) (fun hHeld => ?_)
            clear hK K
            try simp only [Act.put]
            try simp only [List.getElem_toArray]
            try simp only [List.getElem_cons_succ]
            try simp only [List.getElem_cons_zero]
            try simp only [List.setIfInBounds_toArray]
            try simp only [List.set_cons_succ, List.set_cons_zero]
            refine wpAnyH_take (i := 9) (v := .bool false) rfl (by kernel_rfl) (by kernel_rfl) (by kernel_rfl) (fun _ _ _ h => h) (Or.inl ⟨by kernel_rfl, fun w1 hSw => by clear hHeld; obtain ⟨k0, k1⟩ := hSw; go_simp⟩) hHeld ?_
            try simp only [Act.put]
            try simp only [List.getElem_toArray]
            try simp only [List.getElem_cons_succ]
            try simp only [List.getElem_cons_zero]
            try simp only [List.setIfInBounds_toArray]
            try simp only [List.set_cons_succ, List.set_cons_zero]
            refine wpAnyH_done (by kernel_rfl) ?_ _
            go_wp2_with fail
            go_roundw
            case rel => exact ⟨k + 1, by go_num, by omega, HM2⟩
            case measure => simp only [intOf]; omega
          · go_wp2_with fail
            go_ret
            exact ⟨rfl, HM0.out.low⟩
end Go.Proofs.Ytmkfhcdmcncgkaa
