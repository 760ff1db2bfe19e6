import Derived.Test.YtlaaggpfmcehaaaRcOn
namespace Go.Proofs.Ytlaaggpfmcehaaa
open Go.RowKit
open Rc (L V Ch)

theorem deco_prefix {l : List Ch} (h : (Rc.enco l).2 = 0) (hr : ∀ c ∈ l, c.rb < 18446744073709551616) {k : Nat} (hk : k < (Rc.enco l).1.size) : Rc.deco ((Rc.enco l).1.extract 0 k) = none := by
  obtain ⟨h1, h2, h3, h4⟩ := Rc.enco_ok h
  apply Rc.deco_none
  intro m hm
  apply Classical.byContradiction
  intro hn
  have hm2 : (Rc.enco m).2 = 0 := by rw [hm]
  obtain ⟨k1, k2, k3, k4⟩ := Rc.enco_ok hm2
  rw [hm] at k4
  have hk' : k < (Rc.row l).length := by rw [h4] at hk; simpa [ByteArray.size] using hk
  have hl : ((Rc.enco l).1.extract 0 k).data.toList = (Rc.row l).take k := by
    rw [h4]; simp
  have hrow : Rc.row m = (Rc.row l).take k := by
    have := congrArg (fun b : ByteArray => b.data.toList) k4
    simp only at this
    rw [hl] at this
    simpa using this.symm
  have := Rc.row_apart (l := m) (m := l) (more := (Rc.row l).drop k) (by rw [hrow, List.take_append_drop]) (fun c hc => ⟨k2 c hc, Classical.byContradiction fun hb => hn ⟨c, hc, hb⟩⟩) (fun c hc => ⟨h2 c hc, hr c hc⟩) (by omega) (by omega)
  have hz := congrArg List.length this.2
  rw [List.length_drop, List.length_nil] at hz
  omega
theorem deco_more {l : List Ch} (h : (Rc.enco l).2 = 0) (hr : ∀ c ∈ l, c.rb < 18446744073709551616) : Rc.deco ((Rc.enco l).1 ++ ⟨#[0]⟩) = none := by
  obtain ⟨h1, h2, h3, h4⟩ := Rc.enco_ok h
  apply Rc.deco_none
  intro m hm
  apply Classical.byContradiction
  intro hn
  have hm2 : (Rc.enco m).2 = 0 := by rw [hm]
  obtain ⟨k1, k2, k3, k4⟩ := Rc.enco_ok hm2
  rw [hm] at k4
  have hrow : Rc.row l ++ [0] = Rc.row m := by
    have := congrArg (fun b : ByteArray => b.data.toList) k4
    simp only [h4] at this
    simpa using this
  have := Rc.row_apart hrow (fun c hc => ⟨h2 c hc, hr c hc⟩) (fun c hc => ⟨k2 c hc, Classical.byContradiction fun hb => hn ⟨c, hc, hb⟩⟩) (by omega) (by omega)
  cases this.2

set_option maxHeartbeats 3200000 in
set_option maxRecDepth 8000 in
theorem recordReturns_walk {w : World} {v : Value} {l : List Ch} (h : Rw w v l) (hl : l.length ≤ 1353245080301) (sb : ByteArray) (hsb : sb.size ≤ 140737488351232) (cut : Int) (hcut : -9223372036854775808 ≤ cut) (hcut' : cut ≤ 9223372036854775807) :
    Calls Try.prog 4 #[v, .string sb, .int .i64 cut] w fun e w' => e = .returned (.bool true) ∧ Below w.heap.size w w' := by
  have hr := h.rb
  have HE := hide (encode_any h)
  have HRW := hide h
  have HD2 := hide fun (W : World) (_ : Below w.heap.size w W) => decode_any sb hsb W
  have HT : Hid (∀ W, Below w.heap.size w W → Calls Try.prog 11 #[] W fun e w' => e = .returned (.bool true) ∧ Below w.heap.size w w') := hide fun W hW => (fixed_any W).mono fun _ _ hf => ⟨hf.1, hW.trans (hf.2.mono hW.size)⟩
  have hnot : ∀ (x : Bool) (w : World), (Op.unary .not (.bool x)).run Try.prog w = .ok (.bool (!x)) w := fun _ _ => rfl
  obtain ⟨p, cap, rfl⟩ := h.len
  have HNO := hide (Rc.enco_no (l := l))
  have HYES : Hid ((Rc.enco l).2 = 0 → Rc.deco (Rc.enco l).1 = some l ∧ 0 < (Rc.enco l).1.size ∧ (Rc.enco l).1.size ≤ 2048 ∧ (∀ k, k < (Rc.enco l).1.size → Rc.deco ((Rc.enco l).1.extract 0 k) = none) ∧ Rc.deco ((Rc.enco l).1 ++ ⟨#[0]⟩) = none ∧ ∀ c ∈ l, c.tx.length ≤ 140737488351232 ∧ c.rb < 18446744073709551616) := hide fun h0 => by
    obtain ⟨_, _, _, h3, h4⟩ := enco_head h0
    exact ⟨Rc.deco_at h0 hr, h3, h4, fun k hk => deco_prefix h0 hr hk, deco_more h0 hr, deco_small (Rc.deco_at h0 hr)⟩
  clear h hr
  generalize Rc.enco l = E at *
  obtain ⟨a, e1⟩ := E
  simp only at HE HNO HYES
  go_enter Try.func4, Try.ntmps4
  go_wp2_with fail
  refine HE.out.mono ?_
  rintro e w1 ⟨rfl, hb1⟩
  have HB1 := hide hb1
  clear HE hb1
  by_cases he1 : e1 = 0
  case neg =>
    have hbe : ((e1 : Int) == 0) = false := beq_eq_false_iff_ne.2 (by omega)
    have haa : a = ⟨#[]⟩ := HNO.out he1
    subst haa
    clear HNO HYES HRW he1
    go_wp2_with fail

    refine (HD2.out _ HB1.out).mono ?_
    intro e wd hP
    cases hds : Rc.deco sb with
    | none =>
      rw [hds] at hP
      obtain ⟨rfl, hbd⟩ := hP
      have HBd := hide (HB1.out.trans (hbd.mono HB1.out.size))
      clear HD2 HB1 hbd hds
      go_wp2_with fail
      refine (HT.out _ HBd.out).mono ?_
      rintro e wf ⟨rfl, hbf⟩
      have HF := hide hbf
      clear hbf HT
      go_wp2
      go_ret
      exact ⟨rfl, HF.out⟩
    | some ml =>
      rw [hds] at hP
      obtain ⟨A, vals, rfl, hml, hN⟩ := hP
      obtain ⟨hen, ⟨hm1, hm16⟩, hok⟩ := Rc.deco_form hds
      have hbd : Below w.heap.size w wd := HB1.out.trans (hN.bel.mono HB1.out.size)
      have HBd := hide hbd
      have hRw := hN.rw hml (deco_small hds)
      have HE2 := hide (encode_any hRw)
      rw [hen] at HE2
      have HVL : Hid (vals.length = ml.length) := hide (by rw [← hml]; simp)
      have HN := hide hN
      have HOK : Hid (∀ j, j < ml.length → Rc.check ml[j]! = 0) := hide fun j hj => (Rc.check_iff _).mpr (hok _ (by rw [getElem!_pos ml j hj]; exact List.getElem_mem hj)).1
      have HSM := hide (deco_small hds)
      have HN16 : Hid (vals.length ≤ 16) := hide (by have := HVL.out; omega)
      clear HD2 HB1 hds hen hok hRw hN hbd hm1 hm16
      have hn16 : vals.length ≤ 16 := HN16.out
      generalize hnn : vals.length = n at *
      go_wp2_with fail
      refine HE2.out.mono ?_
      rintro e we ⟨rfl, hbe⟩
      have HNe := hide (HN.out.below hbe)
      have HBe := hide (HBd.out.trans (hbe.mono HBd.out.size))
      clear HE2 HN HBd hbe
      go_wp2_with fail
      go_loopw [19] (fun s wr => ∃ k : Nat, k ≤ n ∧ s = .int .i64 (k : Int) ∧ Hid (RowN _ A vals wr) ∧ Hid (Below w.heap.size w wr)) (fun s _ => n - (intOf s).toNat)
      case atStart => exact ⟨0, Nat.zero_le _, rfl, HNe, HBe⟩
      case round =>
        obtain ⟨k, hk, rfl, HNk, HBk⟩ := hrel
        by_cases hkl : k < n
        · have hki : (k : Int) < (n : Int) := by omega
          have hRk := HNk.out.rw hml HSM.out
          obtain ⟨pt, ct, hTt, htl, -, hbl, hx⟩ := hRk.at (b := A) (off := 0) (cap := vals.length) (by rw [← HVL.out, hnn]) (show k < ml.length by have := HVL.out; omega)
          have hck := HOK.out k (by have := HVL.out; omega)
          generalize ml[k]! = x at *
          have c0 : wr.cell? ⟨A, k * 10, none⟩ = some (.int .i64 x.k) := by have := hx 0 _ rfl; rw [Nat.zero_add] at this; exact this
          have c1 : wr.cell? ⟨A, k * 10 + 1, none⟩ = some (.int .i64 x.n) := by have := hx 1 _ rfl; rw [Nat.zero_add] at this; exact this
          have c2 : wr.cell? ⟨A, k * 10 + 2, none⟩ = some (.int .i64 x.jo) := by have := hx 2 _ rfl; rw [Nat.zero_add] at this; exact this
          have c3 : wr.cell? ⟨A, k * 10 + 3, none⟩ = some (.int .i64 x.ba) := by have := hx 3 _ rfl; rw [Nat.zero_add] at this; exact this
          have c4 : wr.cell? ⟨A, k * 10 + 4, none⟩ = some (.int .i64 x.sl) := by have := hx 4 _ rfl; rw [Nat.zero_add] at this; exact this
          have c5 : wr.cell? ⟨A, k * 10 + 5, none⟩ = some (.int .i64 x.li) := by have := hx 5 _ rfl; rw [Nat.zero_add] at this; exact this
          have c6 : wr.cell? ⟨A, k * 10 + 6, none⟩ = some (.int .i64 x.rc) := by have := hx 6 _ rfl; rw [Nat.zero_add] at this; exact this
          have c7 : wr.cell? ⟨A, k * 10 + 7, none⟩ = some (.int .u64 (x.rb : Int)) := by have := hx 7 _ rfl; rw [Nat.zero_add] at this; exact this
          have c8 : wr.cell? ⟨A, k * 10 + 8, none⟩ = some (.string x.pr) := by have := hx 8 _ rfl; rw [Nat.zero_add] at this; exact this
          have c9 : wr.cell? ⟨A, k * 10 + 9, none⟩ = some (.slice pt x.tx.length ct) := by have := hx 9 _ rfl; rw [Nat.zero_add] at this; exact this
          have HC := hide (check_any x _ wr hTt htl)
          rw [hck] at HC
          simp only [chC] at HC
          clear hx hRk hTt hck
          go_wp2_with fail
          refine HC.out.mono ?_
          rintro e w8 ⟨rfl, hb8⟩
          have HN8 := hide (HNk.out.below hb8)
          have HB8 := hide (HBk.out.trans (hb8.mono HBk.out.size))
          clear HC HNk HBk hb8 c0 c1 c2 c3 c4 c5 c6 c7 c8 c9
          go_wp2
          go_roundw
          case rel => exact ⟨k + 1, by omega, by go_num, HN8, HB8⟩
          case measure => simp [intOf]; omega
        · obtain rfl : k = n := by omega
          have hki : ¬ (k : Int) < (k : Int) := by omega
          go_wp2_with fail
          refine (HT.out _ HBk.out).mono ?_
          rintro e wf ⟨rfl, hbf⟩
          have HF := hide hbf
          clear hbf HT
          go_wp2
          go_ret
          exact ⟨rfl, HF.out⟩
  subst he1
  obtain ⟨hd, ha0, ha1, hpre, hmo, hsm⟩ := HYES.out rfl
  have HPRE := hide hpre
  have HMO := hide hmo
  have HSM0 := hide hsm
  have HDA := hide (decode_any a (by omega) w1)
  rw [hd] at HDA
  have hane : ¬ a.toList = [] := fun h => by
    have : a = ⟨#[]⟩ := toList_inj (h.trans (by rw [ByteArray.toList_eq]))
    rw [this] at ha0; cases ha0
  have hane2 : (a.toList == []) = false := beq_eq_false_iff_ne.2 hane
  clear HNO HYES hpre hmo hsm hd
  go_wp2_with fail
  refine HDA.out.mono ?_
  rintro e w2 ⟨A0, vals0, rfl, hvl0, hN0⟩
  have HB2 := hide (HB1.out.trans (hN0.bel.mono HB1.out.size))
  have HSA := hide (same_any (hN0.rw hvl0 HSM0.out) (HRW.out.below HB2.out (Nat.le_refl _)) (by omega))
  rw [decide_eq_true rfl] at HSA
  clear HDA hN0 HRW HSM0
  generalize vals0.length = n0 at *
  go_wp2_with fail
  refine HSA.out.mono ?_
  rintro e w3 ⟨rfl, hb3⟩
  have HB3 := hide (HB2.out.trans (hb3.mono HB2.out.size))
  clear HSA hb3 HB2 HB1
  obtain ⟨Q, hQ⟩ : ∃ Q : Nat, (if cut < 0 then -(cut + 1) else cut) = (Q : Int) := ⟨(if cut < 0 then -(cut + 1) else cut).toNat, by split <;> omega⟩
  obtain ⟨k, hk, hkq⟩ : ∃ k : Nat, k < a.size ∧ ((Q : Int).tmod (a.size : Int)) = (k : Int) := by
    refine ⟨Q % a.size, Nat.mod_lt _ ha0, ?_⟩
    rw [Int.tmod_eq_emod_of_nonneg (by omega)]; norm_cast
  have hks : (k : Int) ≤ (a.size : Int) := by omega
  have HDP := hide fun (W : World) => decode_any (a.extract 0 k) (by rw [ByteArray.size_extract]; omega) W
  rw [HPRE.out k hk] at HDP
  have HDM := hide fun (W : World) => decode_any (a ++ ⟨#[0]⟩) (by rw [ByteArray.size_append]; have : (⟨#[0]⟩ : ByteArray).size = 1 := rfl; omega) W
  rw [HMO.out] at HDM
  clear HPRE HMO
  by_cases hneg : cut < 0
  · have hK1 : -((cut + 1).tmod (a.size : Int)) = (k : Int) := by rw [← Int.neg_tmod, ← hkq, ← hQ, if_pos hneg]
    clear hkq hQ
    go_wp2_with fail
    refine (HDP.out _).mono ?_
    rintro e w4 ⟨rfl, hb4⟩
    have HB4 := hide (HB3.out.trans (hb4.mono HB3.out.size))
    clear HDP hb4 HB3
    go_wp2_with fail
    refine (HDM.out _).mono ?_
    rintro e w5 ⟨rfl, hb5⟩
    have HB5 := hide (HB4.out.trans (hb5.mono HB4.out.size))
    clear HDM hb5 HB4
    go_wp2_with fail
    refine (HD2.out _ HB5.out).mono ?_
    intro e wd hP
    cases hds : Rc.deco sb with
    | none =>
      rw [hds] at hP
      obtain ⟨rfl, hbd⟩ := hP
      have HBd := hide (HB5.out.trans (hbd.mono HB5.out.size))
      clear HD2 HB5 hbd hds
      go_wp2_with fail
      refine (HT.out _ HBd.out).mono ?_
      rintro e wf ⟨rfl, hbf⟩
      have HF := hide hbf
      clear hbf HT
      go_wp2
      go_ret
      exact ⟨rfl, HF.out⟩
    | some ml =>
      rw [hds] at hP
      obtain ⟨A, vals, rfl, hml, hN⟩ := hP
      obtain ⟨hen, ⟨hm1, hm16⟩, hok⟩ := Rc.deco_form hds
      have hbd : Below w.heap.size w wd := HB5.out.trans (hN.bel.mono HB5.out.size)
      have HBd := hide hbd
      have hRw := hN.rw hml (deco_small hds)
      have HE2 := hide (encode_any hRw)
      rw [hen] at HE2
      have HVL : Hid (vals.length = ml.length) := hide (by rw [← hml]; simp)
      have HN := hide hN
      have HOK : Hid (∀ j, j < ml.length → Rc.check ml[j]! = 0) := hide fun j hj => (Rc.check_iff _).mpr (hok _ (by rw [getElem!_pos ml j hj]; exact List.getElem_mem hj)).1
      have HSM := hide (deco_small hds)
      have HN16 : Hid (vals.length ≤ 16) := hide (by have := HVL.out; omega)
      clear HD2 HB5 hds hen hok hRw hN hbd hm1 hm16
      have hn16 : vals.length ≤ 16 := HN16.out
      generalize hnn : vals.length = n at *
      go_wp2_with fail
      refine HE2.out.mono ?_
      rintro e we ⟨rfl, hbe⟩
      have HNe := hide (HN.out.below hbe)
      have HBe := hide (HBd.out.trans (hbe.mono HBd.out.size))
      clear HE2 HN HBd hbe
      go_wp2_with fail
      go_loopw [19] (fun s wr => ∃ k : Nat, k ≤ n ∧ s = .int .i64 (k : Int) ∧ Hid (RowN _ A vals wr) ∧ Hid (Below w.heap.size w wr)) (fun s _ => n - (intOf s).toNat)
      case atStart => exact ⟨0, Nat.zero_le _, rfl, HNe, HBe⟩
      case round =>
        obtain ⟨k, hk, rfl, HNk, HBk⟩ := hrel
        by_cases hkl : k < n
        · have hki : (k : Int) < (n : Int) := by omega
          have hRk := HNk.out.rw hml HSM.out
          obtain ⟨pt, ct, hTt, htl, -, hbl, hx⟩ := hRk.at (b := A) (off := 0) (cap := vals.length) (by rw [← HVL.out, hnn]) (show k < ml.length by have := HVL.out; omega)
          have hck := HOK.out k (by have := HVL.out; omega)
          generalize ml[k]! = x at *
          have c0 : wr.cell? ⟨A, k * 10, none⟩ = some (.int .i64 x.k) := by have := hx 0 _ rfl; rw [Nat.zero_add] at this; exact this
          have c1 : wr.cell? ⟨A, k * 10 + 1, none⟩ = some (.int .i64 x.n) := by have := hx 1 _ rfl; rw [Nat.zero_add] at this; exact this
          have c2 : wr.cell? ⟨A, k * 10 + 2, none⟩ = some (.int .i64 x.jo) := by have := hx 2 _ rfl; rw [Nat.zero_add] at this; exact this
          have c3 : wr.cell? ⟨A, k * 10 + 3, none⟩ = some (.int .i64 x.ba) := by have := hx 3 _ rfl; rw [Nat.zero_add] at this; exact this
          have c4 : wr.cell? ⟨A, k * 10 + 4, none⟩ = some (.int .i64 x.sl) := by have := hx 4 _ rfl; rw [Nat.zero_add] at this; exact this
          have c5 : wr.cell? ⟨A, k * 10 + 5, none⟩ = some (.int .i64 x.li) := by have := hx 5 _ rfl; rw [Nat.zero_add] at this; exact this
          have c6 : wr.cell? ⟨A, k * 10 + 6, none⟩ = some (.int .i64 x.rc) := by have := hx 6 _ rfl; rw [Nat.zero_add] at this; exact this
          have c7 : wr.cell? ⟨A, k * 10 + 7, none⟩ = some (.int .u64 (x.rb : Int)) := by have := hx 7 _ rfl; rw [Nat.zero_add] at this; exact this
          have c8 : wr.cell? ⟨A, k * 10 + 8, none⟩ = some (.string x.pr) := by have := hx 8 _ rfl; rw [Nat.zero_add] at this; exact this
          have c9 : wr.cell? ⟨A, k * 10 + 9, none⟩ = some (.slice pt x.tx.length ct) := by have := hx 9 _ rfl; rw [Nat.zero_add] at this; exact this
          have HC := hide (check_any x _ wr hTt htl)
          rw [hck] at HC
          simp only [chC] at HC
          clear hx hRk hTt hck
          go_wp2_with fail
          refine HC.out.mono ?_
          rintro e w8 ⟨rfl, hb8⟩
          have HN8 := hide (HNk.out.below hb8)
          have HB8 := hide (HBk.out.trans (hb8.mono HBk.out.size))
          clear HC HNk HBk hb8 c0 c1 c2 c3 c4 c5 c6 c7 c8 c9
          go_wp2
          go_roundw
          case rel => exact ⟨k + 1, by omega, by go_num, HN8, HB8⟩
          case measure => simp [intOf]; omega
        · obtain rfl : k = n := by omega
          have hki : ¬ (k : Int) < (k : Int) := by omega
          go_wp2_with fail
          refine (HT.out _ HBk.out).mono ?_
          rintro e wf ⟨rfl, hbf⟩
          have HF := hide hbf
          clear hbf HT
          go_wp2
          go_ret
          exact ⟨rfl, HF.out⟩
  · have hK1 : cut.tmod (a.size : Int) = (k : Int) := by rw [← hkq, ← hQ, if_neg hneg]
    clear hkq hQ
    go_wp2_with fail
    refine (HDP.out _).mono ?_
    rintro e w4 ⟨rfl, hb4⟩
    have HB4 := hide (HB3.out.trans (hb4.mono HB3.out.size))
    clear HDP hb4 HB3
    go_wp2_with fail
    refine (HDM.out _).mono ?_
    rintro e w5 ⟨rfl, hb5⟩
    have HB5 := hide (HB4.out.trans (hb5.mono HB4.out.size))
    clear HDM hb5 HB4
    go_wp2_with fail
    refine (HD2.out _ HB5.out).mono ?_
    intro e wd hP
    cases hds : Rc.deco sb with
    | none =>
      rw [hds] at hP
      obtain ⟨rfl, hbd⟩ := hP
      have HBd := hide (HB5.out.trans (hbd.mono HB5.out.size))
      clear HD2 HB5 hbd hds
      go_wp2_with fail
      refine (HT.out _ HBd.out).mono ?_
      rintro e wf ⟨rfl, hbf⟩
      have HF := hide hbf
      clear hbf HT
      go_wp2
      go_ret
      exact ⟨rfl, HF.out⟩
    | some ml =>
      rw [hds] at hP
      obtain ⟨A, vals, rfl, hml, hN⟩ := hP
      obtain ⟨hen, ⟨hm1, hm16⟩, hok⟩ := Rc.deco_form hds
      have hbd : Below w.heap.size w wd := HB5.out.trans (hN.bel.mono HB5.out.size)
      have HBd := hide hbd
      have hRw := hN.rw hml (deco_small hds)
      have HE2 := hide (encode_any hRw)
      rw [hen] at HE2
      have HVL : Hid (vals.length = ml.length) := hide (by rw [← hml]; simp)
      have HN := hide hN
      have HOK : Hid (∀ j, j < ml.length → Rc.check ml[j]! = 0) := hide fun j hj => (Rc.check_iff _).mpr (hok _ (by rw [getElem!_pos ml j hj]; exact List.getElem_mem hj)).1
      have HSM := hide (deco_small hds)
      have HN16 : Hid (vals.length ≤ 16) := hide (by have := HVL.out; omega)
      clear HD2 HB5 hds hen hok hRw hN hbd hm1 hm16
      have hn16 : vals.length ≤ 16 := HN16.out
      generalize hnn : vals.length = n at *
      go_wp2_with fail
      refine HE2.out.mono ?_
      rintro e we ⟨rfl, hbe⟩
      have HNe := hide (HN.out.below hbe)
      have HBe := hide (HBd.out.trans (hbe.mono HBd.out.size))
      clear HE2 HN HBd hbe
      go_wp2_with fail
      go_loopw [19] (fun s wr => ∃ k : Nat, k ≤ n ∧ s = .int .i64 (k : Int) ∧ Hid (RowN _ A vals wr) ∧ Hid (Below w.heap.size w wr)) (fun s _ => n - (intOf s).toNat)
      case atStart => exact ⟨0, Nat.zero_le _, rfl, HNe, HBe⟩
      case round =>
        obtain ⟨k, hk, rfl, HNk, HBk⟩ := hrel
        by_cases hkl : k < n
        · have hki : (k : Int) < (n : Int) := by omega
          have hRk := HNk.out.rw hml HSM.out
          obtain ⟨pt, ct, hTt, htl, -, hbl, hx⟩ := hRk.at (b := A) (off := 0) (cap := vals.length) (by rw [← HVL.out, hnn]) (show k < ml.length by have := HVL.out; omega)
          have hck := HOK.out k (by have := HVL.out; omega)
          generalize ml[k]! = x at *
          have c0 : wr.cell? ⟨A, k * 10, none⟩ = some (.int .i64 x.k) := by have := hx 0 _ rfl; rw [Nat.zero_add] at this; exact this
          have c1 : wr.cell? ⟨A, k * 10 + 1, none⟩ = some (.int .i64 x.n) := by have := hx 1 _ rfl; rw [Nat.zero_add] at this; exact this
          have c2 : wr.cell? ⟨A, k * 10 + 2, none⟩ = some (.int .i64 x.jo) := by have := hx 2 _ rfl; rw [Nat.zero_add] at this; exact this
          have c3 : wr.cell? ⟨A, k * 10 + 3, none⟩ = some (.int .i64 x.ba) := by have := hx 3 _ rfl; rw [Nat.zero_add] at this; exact this
          have c4 : wr.cell? ⟨A, k * 10 + 4, none⟩ = some (.int .i64 x.sl) := by have := hx 4 _ rfl; rw [Nat.zero_add] at this; exact this
          have c5 : wr.cell? ⟨A, k * 10 + 5, none⟩ = some (.int .i64 x.li) := by have := hx 5 _ rfl; rw [Nat.zero_add] at this; exact this
          have c6 : wr.cell? ⟨A, k * 10 + 6, none⟩ = some (.int .i64 x.rc) := by have := hx 6 _ rfl; rw [Nat.zero_add] at this; exact this
          have c7 : wr.cell? ⟨A, k * 10 + 7, none⟩ = some (.int .u64 (x.rb : Int)) := by have := hx 7 _ rfl; rw [Nat.zero_add] at this; exact this
          have c8 : wr.cell? ⟨A, k * 10 + 8, none⟩ = some (.string x.pr) := by have := hx 8 _ rfl; rw [Nat.zero_add] at this; exact this
          have c9 : wr.cell? ⟨A, k * 10 + 9, none⟩ = some (.slice pt x.tx.length ct) := by have := hx 9 _ rfl; rw [Nat.zero_add] at this; exact this
          have HC := hide (check_any x _ wr hTt htl)
          rw [hck] at HC
          simp only [chC] at HC
          clear hx hRk hTt hck
          go_wp2_with fail
          refine HC.out.mono ?_
          rintro e w8 ⟨rfl, hb8⟩
          have HN8 := hide (HNk.out.below hb8)
          have HB8 := hide (HBk.out.trans (hb8.mono HBk.out.size))
          clear HC HNk HBk hb8 c0 c1 c2 c3 c4 c5 c6 c7 c8 c9
          go_wp2
          go_roundw
          case rel => exact ⟨k + 1, by omega, by go_num, HN8, HB8⟩
          case measure => simp [intOf]; omega
        · obtain rfl : k = n := by omega
          have hki : ¬ (k : Int) < (k : Int) := by omega
          go_wp2_with fail
          refine (HT.out _ HBk.out).mono ?_
          rintro e wf ⟨rfl, hbf⟩
          have HF := hide hbf
          clear hbf HT
          go_wp2
          go_ret
          exact ⟨rfl, HF.out⟩

end Go.Proofs.Ytlaaggpfmcehaaa
