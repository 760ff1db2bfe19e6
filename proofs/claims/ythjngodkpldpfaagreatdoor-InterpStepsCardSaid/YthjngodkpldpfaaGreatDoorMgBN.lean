import Derived.Test.YthjngodkpldpfaaGreatDoorMgAX
import Derived.Test.YthjngodkpldpfaaGreatDoorMgBM
import Derived.Test.YthjngodkpldpfaaGreatDoorMgBA

section
namespace Go.Proofs.YthjngodkpldpfaaGreatDoor
open Go.RowKit Go.Shelf

/-- three rows, own and apart: chunks, pieces, acts -/
structure Rows3 (w : World) (base : Nat) (cv pv u : Value) (c p : List ByteArray) (L : List (Nat × ByteArray)) : Prop where
  c : w.ownsRow base 9 1 cv c.length (Im.strs c)
  p : w.ownsRow base 9 1 pv p.length (Im.strs p)
  t : w.ownsRow base 58 2 u L.length (Im.acs L)
  a1 : ∀ g, cv.ownBlock = some g → pv.ownBlock ≠ some g
  a2 : ∀ g, u.ownBlock = some g → cv.ownBlock ≠ some g
  a3 : ∀ g, u.ownBlock = some g → pv.ownBlock ≠ some g
theorem Rows3.swap {w : World} {base : Nat} {cv pv u : Value} {c p : List ByteArray} {L : List (Nat × ByteArray)} (h : Rows3 w base cv pv u c p L) : Rows3 w base pv cv u p c L := ⟨h.p, h.c, h.t, fun g e1 e2 => h.a1 g e2 e1, h.a3, h.a2⟩
theorem Rows3.below {w w' : World} {base : Nat} {cv pv u : Value} {c p : List ByteArray} {L : List (Nat × ByteArray)} (h : Rows3 w base cv pv u c p L) (k : Below w.heap.size w w') : Rows3 w' base cv pv u c p L :=
  ⟨rown_grown h.c (grown_below k none) (fun _ _ => by simp), rown_grown h.p (grown_below k none) (fun _ _ => by simp), rown_grown h.t (grown_below k none) (fun _ _ => by simp), h.a1, h.a2, h.a3⟩
theorem rows3_add {wr W w7 : World} {base n g cap H : Nat} {cv pv u : Value} {c p : List ByteArray} {L : List (Nat × ByteArray)} {t : ByteArray} (h : Rows3 wr base cv pv u c p L) (hW : wr.grownBy W none) (hH : W.heap.size = H)
    (hown : w7.ownsRow base 9 1 (.slice (some ⟨g, 0, none⟩) n cap) n (Im.strs c ++ [.string t])) (hn : n = c.length + 1) (hgrow : W.grownBy w7 cv.ownBlock) (hat : cv.ownBlock = some g ∨ g = H) : Rows3 w7 base (.slice (some ⟨g, 0, none⟩) n cap) pv u (c ++ [t]) p L := by
  have hpb : ∀ k, pv.ownBlock = some k → base ≤ k ∧ k < wr.heap.size := fun k e => h.p.lt k e
  have hub : ∀ k, u.ownBlock = some k → base ≤ k ∧ k < wr.heap.size := fun k e => h.t.lt k e
  have hsz := hW.size
  refine ⟨?_, ?_, ?_, ?_, ?_, h.a3⟩
  · rw [List.length_append, strs_app]; subst hn; exact hown
  · exact rown_grown (rown_grown h.p hW (fun _ _ => by simp)) hgrow (fun k e e2 => h.a1 k e2.symm e)
  · exact rown_grown (rown_grown h.t hW (fun _ _ => by simp)) hgrow (fun k e e2 => h.a2 k e e2.symm)
  · intro k e e3
    simp only [Value.ownBlock] at e
    injection e with e
    subst e
    rcases hat with h1 | h1
    · exact h.a1 _ h1 e3
    · have := hpb _ e3; omega
  · intro k e e3
    simp only [Value.ownBlock] at e3
    injection e3 with e3
    subst e3
    rcases hat with h1 | h1
    · exact h.a2 _ e h1
    · have := hub _ e; omega
theorem below_two (w : World) (a b : Nat) : Below w.heap.size w ((w.drewN a).drewN b) := ⟨rfl, rfl, rfl, Nat.le_refl _, fun _ _ => rfl⟩
theorem bl_trans {a b c : World} (h : Below a.heap.size a b) (k : Below b.heap.size b c) : Below a.heap.size a c := h.trans (k.mono h.size)
theorem told_len : ∀ l : List (Nat × ByteArray), (Im.chk l).length + (Im.pcs l).length = l.length
  | [] => rfl
  | a :: r => by
    have ih := told_len r
    unfold Im.chk Im.pcs at *
    by_cases h : a.1 = 1
    · simp [h] at *; omega
    · simp [h] at *; omega
set_option maxRecDepth 20000 in
set_option maxHeartbeats 8000000 in
theorem interpEnds_walk (fuel : Int) (xs : List In) (hx : ∀ x ∈ xs, x.Fits) (v : Value) (rs : List Int) (r : Value) (w : World) (h : Cd w v xs) (hN : Ns w r rs) (hT : Tbs w) :
    Calls Tryz.prog 5 #[.agg #[.int .i64 fuel, v], r] w fun e w' => e = .returned (.bool true) ∧ Below w.heap.size w w' := by
  have HCd := hide h
  have HT := hide hT
  have HX := hide hx
  have HN := hide hN
  obtain ⟨⟨rp, rcap, rfl, hnw⟩, hrl, -⟩ := hN
  have HNW := hide hnw
  clear hnw
  by_cases hE : (Pg.checkE fuel xs).1 = 0
  · obtain ⟨f, rfl, hp⟩ := pok_of hx hE
    have hc := check_zz hp hE
    have HP := hide hp
    have HC := hide hc
    have hf1 := hp.f1
    have hf2 := hp.f2
    have hl1 := hp.l1
    have hl2 := hp.l2
    obtain ⟨p, cap, rfl, -⟩ := h
    clear hE hp hc hx hT
    go_enter Tryz.func5, Tryz.ntmps5
    go_wp2_with fail
    refine (new_ok HX.out (HCd.out.below (below_one w _) (Nat.le_refl _)) HC.out (by omega) hl2).mono ?_
    rintro e w1 ⟨B, v1, rfl, hmb, hcd, hB, hb1⟩
    simp only [World.size_alloc] at hB
    have hB' : w.heap.size ≤ B := by omega
    have HB1 : Hid (Below w.heap.size w w1) := (below_one w _).trans (hb1.mono (by simp))
    have hpw : w1.heap[w.heap.size]? = some (.cells #[.int .i64 (f : Int), .slice p xs.length cap] 24 (0, 0)) := (hb1.block w.heap.size (by simp)).trans (heap_alloc_new w _)
    have HPW := hide hpw
    have p0 : w1.cell? ⟨w.heap.size, 0, none⟩ = some (.int .i64 (f : Int)) := cell_of_block hpw rfl
    have p1 : w1.cell? ⟨w.heap.size, 1, none⟩ = some (.slice p xs.length cap) := cell_of_block hpw rfl
    have HM1 := hide hmb
    have HC1 := hide hcd
    clear hb1 hpw hmb hcd
    go_wp2_with fail
    refine (whole_ok HX.out (HCd.out.below HB1.out (Nat.le_refl _)) HC.out HP.out (HT.out.below HB1.out)).mono ?_
    rintro e w2 ⟨o, rfl, ho, hb2⟩
    obtain ⟨cv0, pv0, rfl, s1, s2⟩ := ho
    simp only [resC_en]
    have HS1 := hide s1
    have HS2 := hide s2
    obtain ⟨pc1, cc1, rfl⟩ := rown_slice s1
    obtain ⟨pp1, cp1, rfl⟩ := rown_slice s2
    have hB1l := HM1.out.lt
    clear s1 s2
    have HB2 : Hid (Below w.heap.size w w2) := HB1.out.trans (hb2.mono HB1.out.size)
    have HB12 := hide hb2
    clear hb2 p0 p1
    go_wp2_with fail
    refine (iawake_true _ ((HT.out.below HB2.out).below (below_one w2 _))).mono ?_
    rintro e w3 ⟨rfl, hb3⟩
    have hO3 : w3.heap[w2.heap.size]? = some (.cells #[.int .i64 ((Im.end_ xs f).1.en : Int), .int .u64 (Im.resB (Im.end_ xs f).1 : Int), .slice pc1 (Im.chk (Im.end_ xs f).2).length cc1, .slice pp1 (Im.pcs (Im.end_ xs f).2).length cp1, .int .i64 ((Im.end_ xs f).1.dn : Int)] 48 (0, 0)) := (hb3.block w2.heap.size (by simp)).trans (heap_alloc_new w2 _)
    have HOB := hide hO3
    have hb23 : Below w2.heap.size w2 w3 := (below_one w2 _).trans (hb3.mono (by simp))
    have hb13 : Below w1.heap.size w1 w3 := HB12.out.trans (hb23.mono HB12.out.size)
    have HB3 : Hid (Below w.heap.size w w3) := HB1.out.trans (hb13.mono HB1.out.size)
    have HM3 := hide (HM1.out.below hb13 HM1.out.lt)
    have HC3 := hide (HC1.out.grown (grown_below hb13 _))
    have HE3 : Hid (Env w3 B) := HT.out.env HB3.out hB'
    have HP3 := hide ((hb13.block _ (lt_of_block HPW.out)).trans HPW.out)
    have HS13 := hide (rown_grown HS1.out (grown_below hb23 none) (fun _ _ => by simp))
    have HS23 := hide (rown_grown HS2.out (grown_below hb23 none) (fun _ _ => by simp))
    have HN3 := hide (HN.out.below HB3.out)
    have hBl : B < w3.heap.size := HM3.out.lt
    have hO3l : w2.heap.size < w3.heap.size := lt_of_block hO3
    have hB2l : B < w2.heap.size := Nat.lt_of_lt_of_le HM1.out.lt HB12.out.size
    clear hb3 hb23 hb13 HM1 HC1 HB1 HB2 HB12 HS1 HS2 HPW hO3
    have HI0 := hide (m0_ok xs.length f hl1 hf1)
    have hIE : ∀ n, (Im.itr xs f Im.m0 n).1.ov = true → Im.itr xs f Im.m0 n = Im.end_ xs f := fun n => itr_full HP.out
    generalize Im.end_ xs f = EE at *
    have HIE := hide hIE
    clear hIE
    have HNR : Hid (∀ wr, w3.grownBy wr (some B) → ∀ j, j < rs.length → ∃ b off, rp = some ⟨b, off, none⟩ ∧ wr.cell? ⟨b, off + j, none⟩ = some (.int .i64 rs[j]!)) := fun wr g j hj => by
      obtain ⟨b, off, e1, e2, e3⟩ := HNW.out (by omega)
      exact ⟨b, off, e1, g.cell ((HB3.out.cell (p := ⟨b, off + j, none⟩) e2).trans (e3 j hj)) (by simp; omega)⟩
    have HNH : Hid (∀ j, j < rs.length → rs[j]! ≤ 9223372036854775807) := fun j hj => by rw [getElem!_pos rs j hj]; exact HN.out.hi _ (List.getElem_mem hj)
    clear HN HN3 HCd HT HX HNW
    go_wp2_with fail
    go_loopw [9, 10, 11] (fun cv pv t wr => ∃ i n : Nat, t = .int .i64 (i : Int) ∧ i ≤ (Im.itr xs f Im.m0 n).1.dn ∧ Hid (Mb wr B (Im.itr xs f Im.m0 n).1 v1 f) ∧ Hid (Rows2 wr w3.heap.size cv pv (Im.chk (Im.itr xs f Im.m0 n).2) (Im.pcs (Im.itr xs f Im.m0 n).2)) ∧ Hid (w3.grownBy wr (some B))) (fun _ _ t _ => f + 1 - (intOf t).toNat)
    case atStart =>
      refine ⟨0, 0, rfl, Nat.zero_le _, (HM3.out.grown (grown_one w3 _ none) (by simp)).grown (grown_one _ _ none) (by simp), ⟨?_, ?_, ?_⟩, grown_trans (grown_one w3 _ _) (grown_one _ _ _)⟩
      · exact rown_grown (World.ownsRow_made w3 #[] 0 (Nat.le_refl _) (by decide) rfl) (grown_one _ _ none) (fun _ _ => by simp)
      · have := World.ownsRow_made (base := w3.heap.size) (e := 9) (size := 1) (w3.alloc (.cells #[] 9)) #[] 0 (by rw [World.size_alloc]; omega) (by decide) rfl
        rw [World.size_alloc] at this
        exact this
      · intro g e1 e2
        simp only [Value.ownBlock] at e1 e2
        injection e1 with e1
        injection e2 with e2
        omega
    case round =>
      obtain ⟨i, n, rfl, hin, HMn, HRn, HGn⟩ := hrel
      have hok := itr_ok HI0.out HP.out.good n
      obtain ⟨I, hI⟩ : ∃ I, Im.itr xs f Im.m0 n = I := ⟨_, rfl⟩
      rw [hI] at hin HMn HRn hok
      have HI := hide hI
      have hps := (HGn.out.block _ (lt_of_block HP3.out) (by simp; omega)).trans HP3.out
      have p0 : wr.cell? ⟨w.heap.size, 0, none⟩ = some (.int .i64 (f : Int)) := cell_of_block hps rfl
      have hszn := HGn.out.size
      have hplr : w.heap.size < wr.heap.size := by omega
      have HOK := hide hok
      have hdn := hok.dn
      obtain ⟨adc, capc, rfl⟩ := rown_slice HRn.out.c
      obtain ⟨adp, capp, rfl⟩ := rown_slice HRn.out.p
      clear hI hok hps
      by_cases ho : I.1.ov = true
      · have hIE : I = EE := HI.out.symm.trans (HIE.out n (by rw [HI.out]; exact ho))
        subst hIE
        have htd := told_itr xs f n
        rw [HI.out] at htd
        have hc32 : (Im.chk I.2).length ≤ 32 := by rw [htd.c]; exact HOK.out.ch
        have hp16 : (Im.pcs I.2).length ≤ 16 := by rw [htd.p]; exact HOK.out.pc
        have hc32i : ((Im.chk I.2).length : Int) ≤ 32 := by omega
        have hp16i : ((Im.pcs I.2).length : Int) ≤ 16 := by omega
        have hif : (i : Int) ≤ (f : Int) := by omega
        have HOv : Hid (Calls Tryz.prog 20 #[.pointer (some ⟨B, 0, none⟩)] wr fun e w' => e = .returned (.bool true) ∧ w' = wr) := by have := over_any HMn.out; rw [ho] at this; exact this
        have hRs := result_any HMn.out
        rw [resC_en] at hRs
        have HRs := hide hRs
        have hOw := (HGn.out.block _ hO3l (by simp; omega)).trans HOB.out
        have HOW := hide hOw
        have hOl : w2.heap.size < wr.heap.size := lt_of_block hOw
        have HA1 := hide (sl_of HRn.out.c)
        have HA2 := hide (sl_of HRn.out.p)
        have HA3 := hide (sl_of (rown_grown HS13.out HGn.out (fun k e e2 => by have := (HS13.out.lt k e).1; injection e2 with e2; omega)))
        have HA4 := hide (sl_of (rown_grown HS23.out HGn.out (fun k e e2 => by have := (HS23.out.lt k e).1; injection e2 with e2; omega)))
        have HFB : Hid (Below w.heap.size w wr) := HB3.out.trans ⟨HGn.out.os, HGn.out.tape, HGn.out.output, HGn.out.size, fun k hk => HGn.out.block k (by have := HB3.out.size; omega) (by simp; omega)⟩
        have hMl := HMn.out.lt
        have HCo : Hid (∀ W, Below wr.heap.size wr W → Calls Tryz.prog 20 #[.pointer (some ⟨B, 0, none⟩)] W fun e w' => e = .returned (.bool true) ∧ Below W.heap.size W w') := fun W k => by
          have := over_any (HMn.out.below k hMl)
          rw [ho] at this
          exact this.mono fun _ _ ⟨e1, e2⟩ => ⟨e1, e2 ▸ Below.refl _ _⟩
        have HCd : Hid (∀ W, Below wr.heap.size wr W → Calls Tryz.prog 21 #[.pointer (some ⟨B, 0, none⟩)] W fun e w' => e = .returned (.int .i64 (I.1.dn : Int)) ∧ Below W.heap.size W w') := fun W k => (done_any (HMn.out.below k hMl)).mono fun _ _ ⟨e1, e2⟩ => ⟨e1, e2 ▸ Below.refl _ _⟩
        have HCr : Hid (∀ W, Below wr.heap.size wr W → Calls Tryz.prog 25 #[.pointer (some ⟨B, 0, none⟩)] W fun e w' => e = .returned (.agg #[.int .i64 (I.1.en : Int), .int .u64 (Im.resB I.1 : Int)]) ∧ Below W.heap.size W w') := fun W k => by
          have := result_any (HMn.out.below k hMl)
          rw [resC_en] at this
          exact this
        have HC1' : Hid (∀ W, Below wr.heap.size wr W → Calls Tryz.prog 26 #[.slice adc (Im.chk I.2).length capc, .slice pc1 (Im.chk I.2).length cc1] W fun e w' => e = .returned (.bool true) ∧ Below W.heap.size W w') := fun W k => sameTexts_eq (HA1.out.below k) (HA3.out.below k) (by omega)
        have HC2' : Hid (∀ W, Below wr.heap.size wr W → Calls Tryz.prog 26 #[.slice adp (Im.pcs I.2).length capp, .slice pp1 (Im.pcs I.2).length cp1] W fun e w' => e = .returned (.bool true) ∧ Below W.heap.size W w') := fun W k => sameTexts_eq (HA2.out.below k) (HA4.out.below k) (by omega)
        obtain ⟨o0, o1, o2, o3, o4, -⟩ := five_of hOw
        have hB0 : Below wr.heap.size wr wr.drew := bd_drew wr 1
        clear hRs hOw htd HRn HRs HA1 HA2 HA3 HA4
        go_wp2_with fail
        refine HOv.out.mono ?_
        rintro e wx ⟨rfl, hwx⟩
        rw [hwx]
        clear hwx wx HOv
        go_wp2_with fail
        go_region_held3 (fun w' => Below wr.heap.size wr w' ∧ w'.cell? ⟨w2.heap.size, 0, none⟩ = some (.int .i64 (I.1.en : Int)) ∧ w'.cell? ⟨w2.heap.size, 1, none⟩ = some (.int .u64 (Im.resB I.1 : Int)) ∧ w'.cell? ⟨w2.heap.size, 2, none⟩ = some (.slice pc1 (Im.chk I.2).length cc1) ∧ w'.cell? ⟨w2.heap.size, 3, none⟩ = some (.slice pp1 (Im.pcs I.2).length cp1) ∧ w'.cell? ⟨w2.heap.size, 4, none⟩ = some (.int .i64 (I.1.dn : Int))) (first | assumption | exact ⟨hBx, x0, x1, x2, x3, x4⟩ | exact ⟨hB0, o0, o1, o2, o3, o4⟩ | go_keep) (first
          | (go_at_call 20; refine (HCo.out _ (And.left ‹Below wr.heap.size wr _ ∧ _›)).mono ?_; rintro e wx ⟨rfl, hbx⟩; have hBx := bl_trans (And.left ‹Below wr.heap.size wr _ ∧ _›) hbx; obtain ⟨x0, x1, x2, x3, x4, -⟩ := five_of ((hBx.block _ hOl).trans HOW.out))
          | (go_at_call 21; refine (HCd.out _ (And.left ‹Below wr.heap.size wr _ ∧ _›)).mono ?_; rintro e wx ⟨rfl, hbx⟩; have hBx := bl_trans (And.left ‹Below wr.heap.size wr _ ∧ _›) hbx; obtain ⟨x0, x1, x2, x3, x4, -⟩ := five_of ((hBx.block _ hOl).trans HOW.out))
          | (go_at_call 25; refine (HCr.out _ (And.left ‹Below wr.heap.size wr _ ∧ _›)).mono ?_; rintro e wx ⟨rfl, hbx⟩; have hBx := bl_trans (And.left ‹Below wr.heap.size wr _ ∧ _›) hbx; obtain ⟨x0, x1, x2, x3, x4, -⟩ := five_of ((hBx.block _ hOl).trans HOW.out))
          | (go_at_call 26; (first | (refine (HC1'.out _ (And.left ‹Below wr.heap.size wr _ ∧ _›)).mono ?_; clear HC1') | refine (HC2'.out _ (And.left ‹Below wr.heap.size wr _ ∧ _›)).mono ?_); rintro e wx ⟨rfl, hbx⟩; have hBx := bl_trans (And.left ‹Below wr.heap.size wr _ ∧ _›) hbx; obtain ⟨x0, x1, x2, x3, x4, -⟩ := five_of ((hBx.block _ hOl).trans HOW.out)))
        all_goals go_wp2_with fail
        all_goals go_ret
        all_goals exact ⟨rfl, HFB.out.trans (hBx.mono HFB.out.size)⟩
      · rw [Bool.not_eq_true] at ho
        have hlv := (HOK.out.live ho).2.1
        have hif : (i : Int) ≤ (f : Int) := by omega
        have HOv : Hid (Calls Tryz.prog 20 #[.pointer (some ⟨B, 0, none⟩)] wr fun e w' => e = .returned (.bool false) ∧ w' = wr) := by have := over_any HMn.out; rw [ho] at this; exact this
        have HDn := hide (done_any HMn.out)
        by_cases hr1 : i < rs.length
        · obtain ⟨b, off, rfl, cr⟩ := HNR.out wr HGn.out i hr1
          have hmo2 := HNH.out i hr1
          obtain ⟨mo, hmo⟩ : ∃ mo, rs[i]! = mo := ⟨_, rfl⟩
          rw [hmo] at cr hmo2
          clear hmo
          have hr1i : (i : Int) < (rs.length : Int) := by omega
          by_cases hr2 : 1 < mo
          · go_wp2_with fail
            refine HOv.out.mono ?_
            rintro e wx ⟨rfl, hwx⟩
            rw [hwx]
            clear hwx wx
            go_wp2_with fail
            refine HDn.out.mono ?_
            rintro e wx ⟨rfl, hwx⟩
            rw [hwx]
            clear hwx wx
            go_wp2_with fail
            refine (run_any HMn.out HOK.out HP.out.good (HC3.out.grown HGn.out) (HE3.out.grown HGn.out) (by omega) (by omega) mo (by omega)).mono ?_
            rintro e w6 ⟨u, rfl, hm6, ho6, hg6⟩
            obtain ⟨kk, hkk⟩ : ∃ kk, Int.toNat mo = kk := ⟨_, rfl⟩
            rw [hkk] at hm6 ho6
            have hkk1 : 0 < kk := by omega
            have hkk2 : (kk : Int) = mo := by omega
            have hmv := itr_moves xs f I.1 ho kk hkk1
            have hup := itr_up xs f I.1 kk
            have hokJ := itr_ok HOK.out HP.out.good kk
            have hdJ := hokJ.dn
            have hchJ := hokJ.ch
            have hpcJ := hokJ.pc
            have hadd : Im.itr xs f Im.m0 (n + kk) = ((Im.itr xs f I.1 kk).1, I.2 ++ (Im.itr xs f I.1 kk).2) := by rw [itr_add, HI.out]
            have htJ := told_itr xs f (n + kk)
            rw [hadd] at htJ
            have HREG : Hid (∀ q, Im.Wd ((Im.itr xs f I.1 kk).1.R[q]!)) := fun q => get_wd hokJ.wR q
            obtain ⟨J, hJ⟩ : ∃ J, Im.itr xs f I.1 kk = J := ⟨_, rfl⟩
            rw [hJ] at hm6 ho6 hmv hup hdJ hadd htJ hchJ hpcJ HREG
            have HTJ : Hid (∀ a ∈ J.2, a.2.size ≤ 32) := fun a ha => htJ.t a (List.mem_append_right _ ha)
            have hI48 : I.2.length + J.2.length ≤ 48 := by
              have h1 := told_len (I.2 ++ J.2)
              have h2 := htJ.c
              have h3 := htJ.p
              simp only at h2 h3
              rw [List.length_append] at h1
              omega
            have HADD := hide hadd
            have hg36 := grown_trans HGn.out hg6
            have hwl6 := hg6.size
            have HR6 : Hid (Rows3 w6 w3.heap.size (.slice adc (Im.chk I.2).length capc) (.slice adp (Im.pcs I.2).length capp) u (Im.chk I.2) (Im.pcs I.2) J.2) :=
              ⟨rown_grown HRn.out.c hg6 (fun k e e2 => by have := (HRn.out.c.lt k e).1; injection e2 with e2; omega), rown_grown HRn.out.p hg6 (fun k e e2 => by have := (HRn.out.p.lt k e).1; injection e2 with e2; omega), rown_low ho6 hszn, HRn.out.apart, fun g e1 e2 => by have := (ho6.lt g e1).1; have := (HRn.out.c.lt g e2).2; omega, fun g e1 e2 => by have := (ho6.lt g e1).1; have := (HRn.out.p.lt g e2).2; omega⟩
            obtain ⟨adu, capu, rfl⟩ := rown_slice ho6
            have HM6 := hide hm6
            have HG36 := hide hg36
            have hps6 := (hg36.block _ (lt_of_block HP3.out) (by simp; omega)).trans HP3.out
            have p06 : w6.cell? ⟨w.heap.size, 0, none⟩ = some (.int .i64 (f : Int)) := cell_of_block hps6 rfl
            have hn1 : ¬ (J.1.dn : Int) ≤ (I.1.dn : Int) := by omega
            have hn2 : ¬ mo < (J.1.dn : Int) - (I.1.dn : Int) := by omega
            have hn3 : ¬ (f : Int) < (J.1.dn : Int) := by omega
            have hpl6 : w.heap.size < w6.heap.size := by omega
            have hww : IntKind.i64.wrap ((J.1.dn : Int) - (I.1.dn : Int)) = (J.1.dn : Int) - (I.1.dn : Int) := by rw [IntKind.wrap_i64]; omega
            clear hm6 ho6 hg6 hokJ hadd htJ hJ hg36 hps6 HMn HRn p0 hkk hkk2 hup
            have HD6 : Hid (∀ q, Calls Tryz.prog 21 #[.pointer (some ⟨B, 0, none⟩)] (w6.drewN q) fun e w' => e = .returned (.int .i64 (J.1.dn : Int)) ∧ w' = w6.drewN q) := fun q => done_any (HM6.out.below (bd_drew w6 q) HM6.out.lt)
            go_wp2_with fail
            go_quiet ((go_at_call 21; exact Calls.quiet_of_same (HD6.out _)))
            have HMq := hide (HM6.out.below (bd_drew w6 nq) HM6.out.lt)
            have HRq := hide (HR6.out.below (bd_drew w6 nq))
            have HGq := hide (grown_trans HG36.out (grown_below (bd_drew w6 nq) (some B)))
            clear HM6 HR6 HG36 HD6 p06
            go_wp2_with fail
            go_loopw [9, 10, 15] (fun cv pv t wr => ∃ k : Nat, t = .int .i64 (k : Int) ∧ k ≤ J.2.length ∧ Hid (Rows3 wr w3.heap.size cv pv (.slice adu J.2.length capu) (Im.chk (I.2 ++ J.2.take k)) (Im.pcs (I.2 ++ J.2.take k)) J.2) ∧ Hid (Mb wr B J.1 v1 f) ∧ Hid (w3.grownBy wr (some B))) (fun _ _ t _ => J.2.length - (intOf t).toNat)
            case atStart => exact ⟨0, rfl, Nat.zero_le _, by rw [List.take_zero, List.append_nil]; exact HRq.out, HMq.out, HGq.out⟩
            case round =>
              clear HMq HRq HGq

              obtain ⟨k, rfl, hkl, HRk, HMk, HGk⟩ := hrel
              have hszk := HGk.out.size
              obtain ⟨adc2, capc2, rfl⟩ := rown_slice HRk.out.c
              obtain ⟨adp2, capp2, rfl⟩ := rown_slice HRk.out.p
              by_cases hlt : k < J.2.length
              · obtain ⟨a, ha⟩ : ∃ a, J.2[k]! = a := ⟨_, rfl⟩
                obtain ⟨gu, capu', hgu⟩ := own_some HRk.out.t (by omega)
                injection hgu with e1 e2 e3
                subst e1 e3
                have hat0 := acs_at J.2 k hlt
                rw [ha] at hat0
                have HAT := hide hat0
                have k0 := HRk.out.t.cells rfl _ _ hat0.1
                have k1 := HRk.out.t.cells rfl _ _ hat0.2
                rw [addr_add, Nat.zero_add] at k0 k1
                have htk : I.2 ++ J.2.take (k + 1) = (I.2 ++ J.2.take k) ++ [a] := by rw [take_one J.2 k hlt, ha, List.append_assoc]
                have HTC := hide (chk_app (I.2 ++ J.2.take k) a)
                have HTP := hide (pcs_app (I.2 ++ J.2.take k) a)
                rw [← htk] at HTC HTP
                have hcl := chk_len (I.2 ++ J.2.take k)
                have hpl2 := pcs_len (I.2 ++ J.2.take k)
                rw [List.length_append, List.length_take] at hcl hpl2
                have hki : (k : Int) < (J.2.length : Int) := by omega
                have hsz32 : ¬ (32 : Int) < (a.2.size : Int) := by
                  have := HTJ.out a (by rw [← ha, getElem!_pos J.2 k hlt]; exact List.getElem_mem hlt)
                  omega
                obtain ⟨i0, hi0, hz0, hz1, hz2⟩ := info_parts infoStr
                clear hat0 ha htk
                by_cases hk1 : a.1 = 1
                · have hkb : ((a.1 : Int) == 1) = true := by rw [hk1]; rfl
                  rw [if_pos hk1] at HTC HTP
                  clear hk1
                  go_wp2_with (at_builtin; refine wpList_append_lies _ rfl (.tmp 107) (.tmp 113) 46 rfl w3.heap.size 9 i0 (.string ⟨#[]⟩) 1 16 Tryz.underlying46 hi0 hz0 hz1 hz2 rfl (by decide) (.slice adc2 (Im.chk (I.2 ++ J.2.take k)).length capc2) (Im.chk (I.2 ++ J.2.take k)).length (Im.strs (Im.chk (I.2 ++ J.2.take k))) rfl (rown_grown HRk.out.c (grown_one wr (.cells #[.string a.2] 9) none) (fun _ _ => by simp)) ⟨wr.heap.size, 0, none⟩ 1 1 [.string a.2] rfl (by simp) (World.news_of_block (cs := #[.string a.2]) (t := 9) (fr := (0, 0)) (heap_alloc_new wr (.cells #[.string a.2] 9))) (by simp [Value.oneCell']) (by decide) (by unfold maxLen; omega) (by omega) (by rw [World.size_alloc]; omega) (wr.heap.size + 1) (by rw [World.size_alloc]) ?_; intro g7 cap7 w7 hown hgrow hat hlt7; have HR7 := hide (rows3_add HRk.out (grown_one wr (.cells #[.string a.2] 9) none) rfl hown rfl hgrow (hat.imp id (fun e => by rw [e, World.size_alloc]))); have k17 := HR7.out.t.cells rfl _ _ HAT.out.2; rw [addr_add, Nat.zero_add] at k17)
                  have hG7 := grown_low (grown_trans HGk.out (grown_one wr (.cells #[.string a.2] 9) _)) hgrow (fun g e => (HRk.out.c.lt g e).1)
                  have hM7 := (HMk.out.grown (grown_one wr (.cells #[.string a.2] 9) none) (by simp)).grown hgrow (fun e => by have := (HRk.out.c.lt B e.symm).1; omega)
                  go_roundw
                  case rel => exact ⟨_, _, _, _, ⟨k + 1, by go_num, by omega, by rw [HTC.out, HTP.out]; exact HR7.out, hM7, hG7⟩, rfl, rfl, rfl, rfl⟩
                  case measure => simp [intOf]; omega
                · have hkb : ((a.1 : Int) == 1) = false := by rw [beq_eq_false_iff_ne]; omega
                  rw [if_neg hk1] at HTC HTP
                  clear hk1
                  go_wp2_with (at_builtin; refine wpList_append_lies _ rfl (.tmp 115) (.tmp 121) 46 rfl w3.heap.size 9 i0 (.string ⟨#[]⟩) 1 16 Tryz.underlying46 hi0 hz0 hz1 hz2 rfl (by decide) (.slice adp2 (Im.pcs (I.2 ++ J.2.take k)).length capp2) (Im.pcs (I.2 ++ J.2.take k)).length (Im.strs (Im.pcs (I.2 ++ J.2.take k))) rfl (rown_grown HRk.out.swap.c (grown_one wr (.cells #[.string a.2] 9) none) (fun _ _ => by simp)) ⟨wr.heap.size, 0, none⟩ 1 1 [.string a.2] rfl (by simp) (World.news_of_block (cs := #[.string a.2]) (t := 9) (fr := (0, 0)) (heap_alloc_new wr (.cells #[.string a.2] 9))) (by simp [Value.oneCell']) (by decide) (by unfold maxLen; omega) (by omega) (by rw [World.size_alloc]; omega) (wr.heap.size + 1) (by rw [World.size_alloc]) ?_; intro g7 cap7 w7 hown hgrow hat hlt7; have HR7 := hide (rows3_add HRk.out.swap (grown_one wr (.cells #[.string a.2] 9) none) rfl hown rfl hgrow (hat.imp id (fun e => by rw [e, World.size_alloc]))); have k17 := HR7.out.t.cells rfl _ _ HAT.out.2; rw [addr_add, Nat.zero_add] at k17)
                  have hG7 := grown_low (grown_trans HGk.out (grown_one wr (.cells #[.string a.2] 9) _)) hgrow (fun g e => (HRk.out.p.lt g e).1)
                  have hM7 := (HMk.out.grown (grown_one wr (.cells #[.string a.2] 9) none) (by simp)).grown hgrow (fun e => by have := (HRk.out.p.lt B e.symm).1; omega)
                  go_roundw
                  case rel => exact ⟨_, _, _, _, ⟨k + 1, by go_num, by omega, by rw [HTC.out, HTP.out]; exact HR7.out.swap, hM7, hG7⟩, rfl, rfl, rfl, rfl⟩
                  case measure => simp [intOf]; omega
              · obtain rfl : k = J.2.length := by omega
                rw [List.take_length] at HRk
                have hki : ¬ (J.2.length : Int) < (J.2.length : Int) := by omega
                have HRR : Hid (Rows2 wr w3.heap.size (.slice adc2 (Im.chk (I.2 ++ J.2)).length capc2) (.slice adp2 (Im.pcs (I.2 ++ J.2)).length capp2) (Im.chk (I.2 ++ J.2)) (Im.pcs (I.2 ++ J.2))) := by have := HRk.out; exact ⟨this.c, this.p, this.a1⟩
                rw [List.take_length]
                clear HRk
                go_wp2_with fail
                go_loopw [16] (fun t wr' => ∃ q nn : Nat, t = .int .i64 (q : Int) ∧ q ≤ 8 ∧ wr' = wr.drewN nn) (fun t _ => 8 - (intOf t).toNat)
                case atStart => exact ⟨0, 0, rfl, Nat.zero_le _, rfl⟩
                case round =>
                  obtain ⟨q, nn, rfl, hq8, rfl⟩ := hrel
                  by_cases hq : q < 8
                  · have hqi : (q : Int) < 8 := by omega
                    have hwd := HREG.out q
                    have hcn := hwd.2
                    have HRg := hide (reg_any (HMk.out.below (bd_drew wr nn) HMk.out.lt) q hq)
                    have HCn := hide (fun w' => rcanon_any (J.1.R[q]!) hwd.1 w')
                    rw [hcn] at HCn
                    generalize J.1.R[q]! = rg at *
                    have hbe : ((rg : Int) != (rg : Int)) = false := by simp
                    clear hwd hcn
                    go_wp2_with (first | (go_at_call 24; refine HRg.out.mono ?_; rintro e wx ⟨rfl, rfl⟩) | (go_at_call 23; refine (HCn.out _).mono ?_; rintro e wx ⟨rfl, rfl⟩))
                    go_roundw
                    case rel => exact ⟨q + 1, _, by go_num, by omega, rfl⟩
                    case measure => simp [intOf]; omega
                  · obtain rfl : q = 8 := by omega
                    have hfin := grown_trans HGk.out (grown_below (bd_drew wr nn) (some B))
                    have hfM := HMk.out.below (bd_drew wr nn) HMk.out.lt
                    have hfR : Rows2 (wr.drewN nn) w3.heap.size (.slice adc2 (Im.chk (I.2 ++ J.2)).length capc2) (.slice adp2 (Im.pcs (I.2 ++ J.2)).length capp2) (Im.chk (I.2 ++ J.2)) (Im.pcs (I.2 ++ J.2)) := ⟨rown_grown HRR.out.c (grown_below (bd_drew wr nn) none) (fun _ _ => by simp), rown_grown HRR.out.p (grown_below (bd_drew wr nn) none) (fun _ _ => by simp), HRR.out.apart⟩
                    have HF1 := hide hfin
                    have HF2 := hide hfM
                    have HF3 := hide hfR
                    clear hfin hfM hfR
                    go_wp2_with fail
                    go_roundw
                    case rel => exact ⟨i + 1, n + kk, by go_num, by rw [HADD.out]; show i + 1 ≤ J.1.dn; omega, by rw [HADD.out]; exact HF2.out, by rw [HADD.out]; exact HF3.out, HF1.out⟩
                    case measure => simp [intOf]; omega
          · have hr2i : mo ≤ 1 := by omega
            go_wp2_with fail
            refine HOv.out.mono ?_
            rintro e wx ⟨rfl, hwx⟩
            rw [hwx]
            clear hwx wx
            go_wp2_with fail
            refine HDn.out.mono ?_
            rintro e wx ⟨rfl, hwx⟩
            rw [hwx]
            clear hwx wx
            go_wp2_with fail
            refine (run_any HMn.out HOK.out HP.out.good (HC3.out.grown HGn.out) (HE3.out.grown HGn.out) (by omega) (by omega) 1 (by omega)).mono ?_
            rintro e w6 ⟨u, rfl, hm6, ho6, hg6⟩
            obtain ⟨kk, hkk⟩ : ∃ kk, Int.toNat 1 = kk := ⟨_, rfl⟩
            rw [hkk] at hm6 ho6
            have hkk1 : 0 < kk := by omega
            have hkk2 : (kk : Int) = 1 := by omega
            have hmv := itr_moves xs f I.1 ho kk hkk1
            have hup := itr_up xs f I.1 kk
            have hokJ := itr_ok HOK.out HP.out.good kk
            have hdJ := hokJ.dn
            have hchJ := hokJ.ch
            have hpcJ := hokJ.pc
            have hadd : Im.itr xs f Im.m0 (n + kk) = ((Im.itr xs f I.1 kk).1, I.2 ++ (Im.itr xs f I.1 kk).2) := by rw [itr_add, HI.out]
            have htJ := told_itr xs f (n + kk)
            rw [hadd] at htJ
            have HREG : Hid (∀ q, Im.Wd ((Im.itr xs f I.1 kk).1.R[q]!)) := fun q => get_wd hokJ.wR q
            obtain ⟨J, hJ⟩ : ∃ J, Im.itr xs f I.1 kk = J := ⟨_, rfl⟩
            rw [hJ] at hm6 ho6 hmv hup hdJ hadd htJ hchJ hpcJ HREG
            have HTJ : Hid (∀ a ∈ J.2, a.2.size ≤ 32) := fun a ha => htJ.t a (List.mem_append_right _ ha)
            have hI48 : I.2.length + J.2.length ≤ 48 := by
              have h1 := told_len (I.2 ++ J.2)
              have h2 := htJ.c
              have h3 := htJ.p
              simp only at h2 h3
              rw [List.length_append] at h1
              omega
            have HADD := hide hadd
            have hg36 := grown_trans HGn.out hg6
            have hwl6 := hg6.size
            have HR6 : Hid (Rows3 w6 w3.heap.size (.slice adc (Im.chk I.2).length capc) (.slice adp (Im.pcs I.2).length capp) u (Im.chk I.2) (Im.pcs I.2) J.2) :=
              ⟨rown_grown HRn.out.c hg6 (fun k e e2 => by have := (HRn.out.c.lt k e).1; injection e2 with e2; omega), rown_grown HRn.out.p hg6 (fun k e e2 => by have := (HRn.out.p.lt k e).1; injection e2 with e2; omega), rown_low ho6 hszn, HRn.out.apart, fun g e1 e2 => by have := (ho6.lt g e1).1; have := (HRn.out.c.lt g e2).2; omega, fun g e1 e2 => by have := (ho6.lt g e1).1; have := (HRn.out.p.lt g e2).2; omega⟩
            obtain ⟨adu, capu, rfl⟩ := rown_slice ho6
            have HM6 := hide hm6
            have HG36 := hide hg36
            have hps6 := (hg36.block _ (lt_of_block HP3.out) (by simp; omega)).trans HP3.out
            have p06 : w6.cell? ⟨w.heap.size, 0, none⟩ = some (.int .i64 (f : Int)) := cell_of_block hps6 rfl
            have hn1 : ¬ (J.1.dn : Int) ≤ (I.1.dn : Int) := by omega
            have hn2 : ¬ 1 < (J.1.dn : Int) - (I.1.dn : Int) := by omega
            have hn3 : ¬ (f : Int) < (J.1.dn : Int) := by omega
            have hpl6 : w.heap.size < w6.heap.size := by omega
            have hww : IntKind.i64.wrap ((J.1.dn : Int) - (I.1.dn : Int)) = (J.1.dn : Int) - (I.1.dn : Int) := by rw [IntKind.wrap_i64]; omega
            clear hm6 ho6 hg6 hokJ hadd htJ hJ hg36 hps6 HMn HRn p0 hkk hkk2 hup
            have HD6 : Hid (∀ q, Calls Tryz.prog 21 #[.pointer (some ⟨B, 0, none⟩)] (w6.drewN q) fun e w' => e = .returned (.int .i64 (J.1.dn : Int)) ∧ w' = w6.drewN q) := fun q => done_any (HM6.out.below (bd_drew w6 q) HM6.out.lt)
            go_wp2_with fail
            go_quiet ((go_at_call 21; exact Calls.quiet_of_same (HD6.out _)))
            have HMq := hide (HM6.out.below (bd_drew w6 nq) HM6.out.lt)
            have HRq := hide (HR6.out.below (bd_drew w6 nq))
            have HGq := hide (grown_trans HG36.out (grown_below (bd_drew w6 nq) (some B)))
            clear HM6 HR6 HG36 HD6 p06
            go_wp2_with fail
            go_loopw [9, 10, 15] (fun cv pv t wr => ∃ k : Nat, t = .int .i64 (k : Int) ∧ k ≤ J.2.length ∧ Hid (Rows3 wr w3.heap.size cv pv (.slice adu J.2.length capu) (Im.chk (I.2 ++ J.2.take k)) (Im.pcs (I.2 ++ J.2.take k)) J.2) ∧ Hid (Mb wr B J.1 v1 f) ∧ Hid (w3.grownBy wr (some B))) (fun _ _ t _ => J.2.length - (intOf t).toNat)
            case atStart => exact ⟨0, rfl, Nat.zero_le _, by rw [List.take_zero, List.append_nil]; exact HRq.out, HMq.out, HGq.out⟩
            case round =>
              clear HMq HRq HGq

              obtain ⟨k, rfl, hkl, HRk, HMk, HGk⟩ := hrel
              have hszk := HGk.out.size
              obtain ⟨adc2, capc2, rfl⟩ := rown_slice HRk.out.c
              obtain ⟨adp2, capp2, rfl⟩ := rown_slice HRk.out.p
              by_cases hlt : k < J.2.length
              · obtain ⟨a, ha⟩ : ∃ a, J.2[k]! = a := ⟨_, rfl⟩
                obtain ⟨gu, capu', hgu⟩ := own_some HRk.out.t (by omega)
                injection hgu with e1 e2 e3
                subst e1 e3
                have hat0 := acs_at J.2 k hlt
                rw [ha] at hat0
                have HAT := hide hat0
                have k0 := HRk.out.t.cells rfl _ _ hat0.1
                have k1 := HRk.out.t.cells rfl _ _ hat0.2
                rw [addr_add, Nat.zero_add] at k0 k1
                have htk : I.2 ++ J.2.take (k + 1) = (I.2 ++ J.2.take k) ++ [a] := by rw [take_one J.2 k hlt, ha, List.append_assoc]
                have HTC := hide (chk_app (I.2 ++ J.2.take k) a)
                have HTP := hide (pcs_app (I.2 ++ J.2.take k) a)
                rw [← htk] at HTC HTP
                have hcl := chk_len (I.2 ++ J.2.take k)
                have hpl2 := pcs_len (I.2 ++ J.2.take k)
                rw [List.length_append, List.length_take] at hcl hpl2
                have hki : (k : Int) < (J.2.length : Int) := by omega
                have hsz32 : ¬ (32 : Int) < (a.2.size : Int) := by
                  have := HTJ.out a (by rw [← ha, getElem!_pos J.2 k hlt]; exact List.getElem_mem hlt)
                  omega
                obtain ⟨i0, hi0, hz0, hz1, hz2⟩ := info_parts infoStr
                clear hat0 ha htk
                by_cases hk1 : a.1 = 1
                · have hkb : ((a.1 : Int) == 1) = true := by rw [hk1]; rfl
                  rw [if_pos hk1] at HTC HTP
                  clear hk1
                  go_wp2_with (at_builtin; refine wpList_append_lies _ rfl (.tmp 107) (.tmp 113) 46 rfl w3.heap.size 9 i0 (.string ⟨#[]⟩) 1 16 Tryz.underlying46 hi0 hz0 hz1 hz2 rfl (by decide) (.slice adc2 (Im.chk (I.2 ++ J.2.take k)).length capc2) (Im.chk (I.2 ++ J.2.take k)).length (Im.strs (Im.chk (I.2 ++ J.2.take k))) rfl (rown_grown HRk.out.c (grown_one wr (.cells #[.string a.2] 9) none) (fun _ _ => by simp)) ⟨wr.heap.size, 0, none⟩ 1 1 [.string a.2] rfl (by simp) (World.news_of_block (cs := #[.string a.2]) (t := 9) (fr := (0, 0)) (heap_alloc_new wr (.cells #[.string a.2] 9))) (by simp [Value.oneCell']) (by decide) (by unfold maxLen; omega) (by omega) (by rw [World.size_alloc]; omega) (wr.heap.size + 1) (by rw [World.size_alloc]) ?_; intro g7 cap7 w7 hown hgrow hat hlt7; have HR7 := hide (rows3_add HRk.out (grown_one wr (.cells #[.string a.2] 9) none) rfl hown rfl hgrow (hat.imp id (fun e => by rw [e, World.size_alloc]))); have k17 := HR7.out.t.cells rfl _ _ HAT.out.2; rw [addr_add, Nat.zero_add] at k17)
                  have hG7 := grown_low (grown_trans HGk.out (grown_one wr (.cells #[.string a.2] 9) _)) hgrow (fun g e => (HRk.out.c.lt g e).1)
                  have hM7 := (HMk.out.grown (grown_one wr (.cells #[.string a.2] 9) none) (by simp)).grown hgrow (fun e => by have := (HRk.out.c.lt B e.symm).1; omega)
                  go_roundw
                  case rel => exact ⟨_, _, _, _, ⟨k + 1, by go_num, by omega, by rw [HTC.out, HTP.out]; exact HR7.out, hM7, hG7⟩, rfl, rfl, rfl, rfl⟩
                  case measure => simp [intOf]; omega
                · have hkb : ((a.1 : Int) == 1) = false := by rw [beq_eq_false_iff_ne]; omega
                  rw [if_neg hk1] at HTC HTP
                  clear hk1
                  go_wp2_with (at_builtin; refine wpList_append_lies _ rfl (.tmp 115) (.tmp 121) 46 rfl w3.heap.size 9 i0 (.string ⟨#[]⟩) 1 16 Tryz.underlying46 hi0 hz0 hz1 hz2 rfl (by decide) (.slice adp2 (Im.pcs (I.2 ++ J.2.take k)).length capp2) (Im.pcs (I.2 ++ J.2.take k)).length (Im.strs (Im.pcs (I.2 ++ J.2.take k))) rfl (rown_grown HRk.out.swap.c (grown_one wr (.cells #[.string a.2] 9) none) (fun _ _ => by simp)) ⟨wr.heap.size, 0, none⟩ 1 1 [.string a.2] rfl (by simp) (World.news_of_block (cs := #[.string a.2]) (t := 9) (fr := (0, 0)) (heap_alloc_new wr (.cells #[.string a.2] 9))) (by simp [Value.oneCell']) (by decide) (by unfold maxLen; omega) (by omega) (by rw [World.size_alloc]; omega) (wr.heap.size + 1) (by rw [World.size_alloc]) ?_; intro g7 cap7 w7 hown hgrow hat hlt7; have HR7 := hide (rows3_add HRk.out.swap (grown_one wr (.cells #[.string a.2] 9) none) rfl hown rfl hgrow (hat.imp id (fun e => by rw [e, World.size_alloc]))); have k17 := HR7.out.t.cells rfl _ _ HAT.out.2; rw [addr_add, Nat.zero_add] at k17)
                  have hG7 := grown_low (grown_trans HGk.out (grown_one wr (.cells #[.string a.2] 9) _)) hgrow (fun g e => (HRk.out.p.lt g e).1)
                  have hM7 := (HMk.out.grown (grown_one wr (.cells #[.string a.2] 9) none) (by simp)).grown hgrow (fun e => by have := (HRk.out.p.lt B e.symm).1; omega)
                  go_roundw
                  case rel => exact ⟨_, _, _, _, ⟨k + 1, by go_num, by omega, by rw [HTC.out, HTP.out]; exact HR7.out.swap, hM7, hG7⟩, rfl, rfl, rfl, rfl⟩
                  case measure => simp [intOf]; omega
              · obtain rfl : k = J.2.length := by omega
                rw [List.take_length] at HRk
                have hki : ¬ (J.2.length : Int) < (J.2.length : Int) := by omega
                have HRR : Hid (Rows2 wr w3.heap.size (.slice adc2 (Im.chk (I.2 ++ J.2)).length capc2) (.slice adp2 (Im.pcs (I.2 ++ J.2)).length capp2) (Im.chk (I.2 ++ J.2)) (Im.pcs (I.2 ++ J.2))) := by have := HRk.out; exact ⟨this.c, this.p, this.a1⟩
                rw [List.take_length]
                clear HRk
                go_wp2_with fail
                go_loopw [16] (fun t wr' => ∃ q nn : Nat, t = .int .i64 (q : Int) ∧ q ≤ 8 ∧ wr' = wr.drewN nn) (fun t _ => 8 - (intOf t).toNat)
                case atStart => exact ⟨0, 0, rfl, Nat.zero_le _, rfl⟩
                case round =>
                  obtain ⟨q, nn, rfl, hq8, rfl⟩ := hrel
                  by_cases hq : q < 8
                  · have hqi : (q : Int) < 8 := by omega
                    have hwd := HREG.out q
                    have hcn := hwd.2
                    have HRg := hide (reg_any (HMk.out.below (bd_drew wr nn) HMk.out.lt) q hq)
                    have HCn := hide (fun w' => rcanon_any (J.1.R[q]!) hwd.1 w')
                    rw [hcn] at HCn
                    generalize J.1.R[q]! = rg at *
                    have hbe : ((rg : Int) != (rg : Int)) = false := by simp
                    clear hwd hcn
                    go_wp2_with (first | (go_at_call 24; refine HRg.out.mono ?_; rintro e wx ⟨rfl, rfl⟩) | (go_at_call 23; refine (HCn.out _).mono ?_; rintro e wx ⟨rfl, rfl⟩))
                    go_roundw
                    case rel => exact ⟨q + 1, _, by go_num, by omega, rfl⟩
                    case measure => simp [intOf]; omega
                  · obtain rfl : q = 8 := by omega
                    have hfin := grown_trans HGk.out (grown_below (bd_drew wr nn) (some B))
                    have hfM := HMk.out.below (bd_drew wr nn) HMk.out.lt
                    have hfR : Rows2 (wr.drewN nn) w3.heap.size (.slice adc2 (Im.chk (I.2 ++ J.2)).length capc2) (.slice adp2 (Im.pcs (I.2 ++ J.2)).length capp2) (Im.chk (I.2 ++ J.2)) (Im.pcs (I.2 ++ J.2)) := ⟨rown_grown HRR.out.c (grown_below (bd_drew wr nn) none) (fun _ _ => by simp), rown_grown HRR.out.p (grown_below (bd_drew wr nn) none) (fun _ _ => by simp), HRR.out.apart⟩
                    have HF1 := hide hfin
                    have HF2 := hide hfM
                    have HF3 := hide hfR
                    clear hfin hfM hfR
                    go_wp2_with fail
                    go_roundw
                    case rel => exact ⟨i + 1, n + kk, by go_num, by rw [HADD.out]; show i + 1 ≤ J.1.dn; omega, by rw [HADD.out]; exact HF2.out, by rw [HADD.out]; exact HF3.out, HF1.out⟩
                    case measure => simp [intOf]; omega
        · have hr1i : (rs.length : Int) ≤ (i : Int) := by omega
          go_wp2_with fail
          refine HOv.out.mono ?_
          rintro e wx ⟨rfl, hwx⟩
          rw [hwx]
          clear hwx wx
          go_wp2_with fail
          refine HDn.out.mono ?_
          rintro e wx ⟨rfl, hwx⟩
          rw [hwx]
          clear hwx wx
          go_wp2_with fail
          refine (run_any HMn.out HOK.out HP.out.good (HC3.out.grown HGn.out) (HE3.out.grown HGn.out) (by omega) (by omega) 1 (by omega)).mono ?_
          rintro e w6 ⟨u, rfl, hm6, ho6, hg6⟩
          obtain ⟨kk, hkk⟩ : ∃ kk, Int.toNat 1 = kk := ⟨_, rfl⟩
          rw [hkk] at hm6 ho6
          have hkk1 : 0 < kk := by omega
          have hkk2 : (kk : Int) = 1 := by omega
          have hmv := itr_moves xs f I.1 ho kk hkk1
          have hup := itr_up xs f I.1 kk
          have hokJ := itr_ok HOK.out HP.out.good kk
          have hdJ := hokJ.dn
          have hchJ := hokJ.ch
          have hpcJ := hokJ.pc
          have hadd : Im.itr xs f Im.m0 (n + kk) = ((Im.itr xs f I.1 kk).1, I.2 ++ (Im.itr xs f I.1 kk).2) := by rw [itr_add, HI.out]
          have htJ := told_itr xs f (n + kk)
          rw [hadd] at htJ
          have HREG : Hid (∀ q, Im.Wd ((Im.itr xs f I.1 kk).1.R[q]!)) := fun q => get_wd hokJ.wR q
          obtain ⟨J, hJ⟩ : ∃ J, Im.itr xs f I.1 kk = J := ⟨_, rfl⟩
          rw [hJ] at hm6 ho6 hmv hup hdJ hadd htJ hchJ hpcJ HREG
          have HTJ : Hid (∀ a ∈ J.2, a.2.size ≤ 32) := fun a ha => htJ.t a (List.mem_append_right _ ha)
          have hI48 : I.2.length + J.2.length ≤ 48 := by
            have h1 := told_len (I.2 ++ J.2)
            have h2 := htJ.c
            have h3 := htJ.p
            simp only at h2 h3
            rw [List.length_append] at h1
            omega
          have HADD := hide hadd
          have hg36 := grown_trans HGn.out hg6
          have hwl6 := hg6.size
          have HR6 : Hid (Rows3 w6 w3.heap.size (.slice adc (Im.chk I.2).length capc) (.slice adp (Im.pcs I.2).length capp) u (Im.chk I.2) (Im.pcs I.2) J.2) :=
            ⟨rown_grown HRn.out.c hg6 (fun k e e2 => by have := (HRn.out.c.lt k e).1; injection e2 with e2; omega), rown_grown HRn.out.p hg6 (fun k e e2 => by have := (HRn.out.p.lt k e).1; injection e2 with e2; omega), rown_low ho6 hszn, HRn.out.apart, fun g e1 e2 => by have := (ho6.lt g e1).1; have := (HRn.out.c.lt g e2).2; omega, fun g e1 e2 => by have := (ho6.lt g e1).1; have := (HRn.out.p.lt g e2).2; omega⟩
          obtain ⟨adu, capu, rfl⟩ := rown_slice ho6
          have HM6 := hide hm6
          have HG36 := hide hg36
          have hps6 := (hg36.block _ (lt_of_block HP3.out) (by simp; omega)).trans HP3.out
          have p06 : w6.cell? ⟨w.heap.size, 0, none⟩ = some (.int .i64 (f : Int)) := cell_of_block hps6 rfl
          have hn1 : ¬ (J.1.dn : Int) ≤ (I.1.dn : Int) := by omega
          have hn2 : ¬ 1 < (J.1.dn : Int) - (I.1.dn : Int) := by omega
          have hn3 : ¬ (f : Int) < (J.1.dn : Int) := by omega
          have hpl6 : w.heap.size < w6.heap.size := by omega
          have hww : IntKind.i64.wrap ((J.1.dn : Int) - (I.1.dn : Int)) = (J.1.dn : Int) - (I.1.dn : Int) := by rw [IntKind.wrap_i64]; omega
          clear hm6 ho6 hg6 hokJ hadd htJ hJ hg36 hps6 HMn HRn p0 hkk hkk2 hup
          have HD6 : Hid (∀ q, Calls Tryz.prog 21 #[.pointer (some ⟨B, 0, none⟩)] (w6.drewN q) fun e w' => e = .returned (.int .i64 (J.1.dn : Int)) ∧ w' = w6.drewN q) := fun q => done_any (HM6.out.below (bd_drew w6 q) HM6.out.lt)
          go_wp2_with fail
          go_quiet ((go_at_call 21; exact Calls.quiet_of_same (HD6.out _)))
          have HMq := hide (HM6.out.below (bd_drew w6 nq) HM6.out.lt)
          have HRq := hide (HR6.out.below (bd_drew w6 nq))
          have HGq := hide (grown_trans HG36.out (grown_below (bd_drew w6 nq) (some B)))
          clear HM6 HR6 HG36 HD6 p06
          go_wp2_with fail
          go_loopw [9, 10, 15] (fun cv pv t wr => ∃ k : Nat, t = .int .i64 (k : Int) ∧ k ≤ J.2.length ∧ Hid (Rows3 wr w3.heap.size cv pv (.slice adu J.2.length capu) (Im.chk (I.2 ++ J.2.take k)) (Im.pcs (I.2 ++ J.2.take k)) J.2) ∧ Hid (Mb wr B J.1 v1 f) ∧ Hid (w3.grownBy wr (some B))) (fun _ _ t _ => J.2.length - (intOf t).toNat)
          case atStart => exact ⟨0, rfl, Nat.zero_le _, by rw [List.take_zero, List.append_nil]; exact HRq.out, HMq.out, HGq.out⟩
          case round =>
            clear HMq HRq HGq

            obtain ⟨k, rfl, hkl, HRk, HMk, HGk⟩ := hrel
            have hszk := HGk.out.size
            obtain ⟨adc2, capc2, rfl⟩ := rown_slice HRk.out.c
            obtain ⟨adp2, capp2, rfl⟩ := rown_slice HRk.out.p
            by_cases hlt : k < J.2.length
            · obtain ⟨a, ha⟩ : ∃ a, J.2[k]! = a := ⟨_, rfl⟩
              obtain ⟨gu, capu', hgu⟩ := own_some HRk.out.t (by omega)
              injection hgu with e1 e2 e3
              subst e1 e3
              have hat0 := acs_at J.2 k hlt
              rw [ha] at hat0
              have HAT := hide hat0
              have k0 := HRk.out.t.cells rfl _ _ hat0.1
              have k1 := HRk.out.t.cells rfl _ _ hat0.2
              rw [addr_add, Nat.zero_add] at k0 k1
              have htk : I.2 ++ J.2.take (k + 1) = (I.2 ++ J.2.take k) ++ [a] := by rw [take_one J.2 k hlt, ha, List.append_assoc]
              have HTC := hide (chk_app (I.2 ++ J.2.take k) a)
              have HTP := hide (pcs_app (I.2 ++ J.2.take k) a)
              rw [← htk] at HTC HTP
              have hcl := chk_len (I.2 ++ J.2.take k)
              have hpl2 := pcs_len (I.2 ++ J.2.take k)
              rw [List.length_append, List.length_take] at hcl hpl2
              have hki : (k : Int) < (J.2.length : Int) := by omega
              have hsz32 : ¬ (32 : Int) < (a.2.size : Int) := by
                have := HTJ.out a (by rw [← ha, getElem!_pos J.2 k hlt]; exact List.getElem_mem hlt)
                omega
              obtain ⟨i0, hi0, hz0, hz1, hz2⟩ := info_parts infoStr
              clear hat0 ha htk
              by_cases hk1 : a.1 = 1
              · have hkb : ((a.1 : Int) == 1) = true := by rw [hk1]; rfl
                rw [if_pos hk1] at HTC HTP
                clear hk1
                go_wp2_with (at_builtin; refine wpList_append_lies _ rfl (.tmp 107) (.tmp 113) 46 rfl w3.heap.size 9 i0 (.string ⟨#[]⟩) 1 16 Tryz.underlying46 hi0 hz0 hz1 hz2 rfl (by decide) (.slice adc2 (Im.chk (I.2 ++ J.2.take k)).length capc2) (Im.chk (I.2 ++ J.2.take k)).length (Im.strs (Im.chk (I.2 ++ J.2.take k))) rfl (rown_grown HRk.out.c (grown_one wr (.cells #[.string a.2] 9) none) (fun _ _ => by simp)) ⟨wr.heap.size, 0, none⟩ 1 1 [.string a.2] rfl (by simp) (World.news_of_block (cs := #[.string a.2]) (t := 9) (fr := (0, 0)) (heap_alloc_new wr (.cells #[.string a.2] 9))) (by simp [Value.oneCell']) (by decide) (by unfold maxLen; omega) (by omega) (by rw [World.size_alloc]; omega) (wr.heap.size + 1) (by rw [World.size_alloc]) ?_; intro g7 cap7 w7 hown hgrow hat hlt7; have HR7 := hide (rows3_add HRk.out (grown_one wr (.cells #[.string a.2] 9) none) rfl hown rfl hgrow (hat.imp id (fun e => by rw [e, World.size_alloc]))); have k17 := HR7.out.t.cells rfl _ _ HAT.out.2; rw [addr_add, Nat.zero_add] at k17)
                have hG7 := grown_low (grown_trans HGk.out (grown_one wr (.cells #[.string a.2] 9) _)) hgrow (fun g e => (HRk.out.c.lt g e).1)
                have hM7 := (HMk.out.grown (grown_one wr (.cells #[.string a.2] 9) none) (by simp)).grown hgrow (fun e => by have := (HRk.out.c.lt B e.symm).1; omega)
                go_roundw
                case rel => exact ⟨_, _, _, _, ⟨k + 1, by go_num, by omega, by rw [HTC.out, HTP.out]; exact HR7.out, hM7, hG7⟩, rfl, rfl, rfl, rfl⟩
                case measure => simp [intOf]; omega
              · have hkb : ((a.1 : Int) == 1) = false := by rw [beq_eq_false_iff_ne]; omega
                rw [if_neg hk1] at HTC HTP
                clear hk1
                go_wp2_with (at_builtin; refine wpList_append_lies _ rfl (.tmp 115) (.tmp 121) 46 rfl w3.heap.size 9 i0 (.string ⟨#[]⟩) 1 16 Tryz.underlying46 hi0 hz0 hz1 hz2 rfl (by decide) (.slice adp2 (Im.pcs (I.2 ++ J.2.take k)).length capp2) (Im.pcs (I.2 ++ J.2.take k)).length (Im.strs (Im.pcs (I.2 ++ J.2.take k))) rfl (rown_grown HRk.out.swap.c (grown_one wr (.cells #[.string a.2] 9) none) (fun _ _ => by simp)) ⟨wr.heap.size, 0, none⟩ 1 1 [.string a.2] rfl (by simp) (World.news_of_block (cs := #[.string a.2]) (t := 9) (fr := (0, 0)) (heap_alloc_new wr (.cells #[.string a.2] 9))) (by simp [Value.oneCell']) (by decide) (by unfold maxLen; omega) (by omega) (by rw [World.size_alloc]; omega) (wr.heap.size + 1) (by rw [World.size_alloc]) ?_; intro g7 cap7 w7 hown hgrow hat hlt7; have HR7 := hide (rows3_add HRk.out.swap (grown_one wr (.cells #[.string a.2] 9) none) rfl hown rfl hgrow (hat.imp id (fun e => by rw [e, World.size_alloc]))); have k17 := HR7.out.t.cells rfl _ _ HAT.out.2; rw [addr_add, Nat.zero_add] at k17)
                have hG7 := grown_low (grown_trans HGk.out (grown_one wr (.cells #[.string a.2] 9) _)) hgrow (fun g e => (HRk.out.p.lt g e).1)
                have hM7 := (HMk.out.grown (grown_one wr (.cells #[.string a.2] 9) none) (by simp)).grown hgrow (fun e => by have := (HRk.out.p.lt B e.symm).1; omega)
                go_roundw
                case rel => exact ⟨_, _, _, _, ⟨k + 1, by go_num, by omega, by rw [HTC.out, HTP.out]; exact HR7.out.swap, hM7, hG7⟩, rfl, rfl, rfl, rfl⟩
                case measure => simp [intOf]; omega
            · obtain rfl : k = J.2.length := by omega
              rw [List.take_length] at HRk
              have hki : ¬ (J.2.length : Int) < (J.2.length : Int) := by omega
              have HRR : Hid (Rows2 wr w3.heap.size (.slice adc2 (Im.chk (I.2 ++ J.2)).length capc2) (.slice adp2 (Im.pcs (I.2 ++ J.2)).length capp2) (Im.chk (I.2 ++ J.2)) (Im.pcs (I.2 ++ J.2))) := by have := HRk.out; exact ⟨this.c, this.p, this.a1⟩
              rw [List.take_length]
              clear HRk
              go_wp2_with fail
              go_loopw [16] (fun t wr' => ∃ q nn : Nat, t = .int .i64 (q : Int) ∧ q ≤ 8 ∧ wr' = wr.drewN nn) (fun t _ => 8 - (intOf t).toNat)
              case atStart => exact ⟨0, 0, rfl, Nat.zero_le _, rfl⟩
              case round =>
                obtain ⟨q, nn, rfl, hq8, rfl⟩ := hrel
                by_cases hq : q < 8
                · have hqi : (q : Int) < 8 := by omega
                  have hwd := HREG.out q
                  have hcn := hwd.2
                  have HRg := hide (reg_any (HMk.out.below (bd_drew wr nn) HMk.out.lt) q hq)
                  have HCn := hide (fun w' => rcanon_any (J.1.R[q]!) hwd.1 w')
                  rw [hcn] at HCn
                  generalize J.1.R[q]! = rg at *
                  have hbe : ((rg : Int) != (rg : Int)) = false := by simp
                  clear hwd hcn
                  go_wp2_with (first | (go_at_call 24; refine HRg.out.mono ?_; rintro e wx ⟨rfl, rfl⟩) | (go_at_call 23; refine (HCn.out _).mono ?_; rintro e wx ⟨rfl, rfl⟩))
                  go_roundw
                  case rel => exact ⟨q + 1, _, by go_num, by omega, rfl⟩
                  case measure => simp [intOf]; omega
                · obtain rfl : q = 8 := by omega
                  have hfin := grown_trans HGk.out (grown_below (bd_drew wr nn) (some B))
                  have hfM := HMk.out.below (bd_drew wr nn) HMk.out.lt
                  have hfR : Rows2 (wr.drewN nn) w3.heap.size (.slice adc2 (Im.chk (I.2 ++ J.2)).length capc2) (.slice adp2 (Im.pcs (I.2 ++ J.2)).length capp2) (Im.chk (I.2 ++ J.2)) (Im.pcs (I.2 ++ J.2)) := ⟨rown_grown HRR.out.c (grown_below (bd_drew wr nn) none) (fun _ _ => by simp), rown_grown HRR.out.p (grown_below (bd_drew wr nn) none) (fun _ _ => by simp), HRR.out.apart⟩
                  have HF1 := hide hfin
                  have HF2 := hide hfM
                  have HF3 := hide hfR
                  clear hfin hfM hfR
                  go_wp2_with fail
                  go_roundw
                  case rel => exact ⟨i + 1, n + kk, by go_num, by rw [HADD.out]; show i + 1 ≤ J.1.dn; omega, by rw [HADD.out]; exact HF2.out, by rw [HADD.out]; exact HF3.out, HF1.out⟩
                  case measure => simp [intOf]; omega
  · have HNo := hide (fun w1 (h1 : Cd w1 v xs) => new_no hx h1 hE)
    have HW := hide (fun w1 (h1 : Cd w1 v xs) => whole_no hx h1 hE)
    obtain ⟨p, cap, rfl, -⟩ := h
    generalize Pg.checkE fuel xs = E at *
    have hb : (E.1 != 0) = true := by rw [bne_iff_ne]; exact hE
    have hbb : (E.1 != E.1) = false := by simp
    clear hx hT hE
    go_enter Tryz.func5, Tryz.ntmps5
    go_wp2_with fail
    refine (HNo.out _ (HCd.out.below (below_one w _) (Nat.le_refl _))).mono ?_
    rintro e w1 ⟨rfl, hb1⟩
    have HB1 : Hid (Below w.heap.size w w1) := (below_one w _).trans (hb1.mono (by simp))
    have hpw : w1.heap[w.heap.size]? = some (.cells #[.int .i64 fuel, .slice p xs.length cap] 24 (0, 0)) := (hb1.block w.heap.size (by simp)).trans (heap_alloc_new w _)
    have p0 : w1.cell? ⟨w.heap.size, 0, none⟩ = some (.int .i64 fuel) := cell_of_block hpw rfl
    have p1 : w1.cell? ⟨w.heap.size, 1, none⟩ = some (.slice p xs.length cap) := cell_of_block hpw rfl
    clear hb1 hpw
    go_wp2_with fail
    refine (HW.out _ (HCd.out.below HB1.out (Nat.le_refl _))).mono ?_
    rintro e w2 ⟨rfl, hb2⟩
    have HB2 : Hid (Below w.heap.size w w2) := HB1.out.trans (hb2.mono HB1.out.size)
    clear hb2
    go_wp2_with fail
    refine (iawake_true _ ((HT.out.below HB2.out).below (below_one w2 _))).mono ?_
    rintro e w3 ⟨rfl, hb3⟩
    have HB3 : Hid (Below w.heap.size w w3) := HB2.out.trans (((below_one w2 _).trans (hb3.mono (by simp))).mono HB2.out.size)
    clear hb3
    go_wp2_with fail
    go_ret
    exact ⟨rfl, HB3.out⟩
end Go.Proofs.YthjngodkpldpfaaGreatDoor
end
