import Derived.Test.YthjngodkpldpfaaGreatDoorMgBJ
import Derived.Test.YthjngodkpldpfaaGreatDoorMgBK

section
namespace Go.Proofs.YthjngodkpldpfaaGreatDoor
open Go.RowKit Go.Shelf

theorem two_ofP {w : World} {Q T : Nat} {a b : Value} (h : w.heap[Q]? = some (.cells #[a, b] T (0, 0))) : w.cell? ⟨Q, 1, none⟩ = some b ∧ w.frozen? ⟨Q, 1, none⟩ = false ∧ Q < w.heap.size :=
  ⟨by simp [World.cell?, h], by simp [World.frozen?, h], lt_of_block h⟩
set_option maxRecDepth 20000 in
set_option maxHeartbeats 2000000 in
theorem rnew_no {w : World} {v : Value} {fuel : Int} {xs : List In} (hx : ∀ x ∈ xs, x.Fits) (h : Cd w v xs) (hc : (Pg.checkE fuel xs).1 ≠ 0) :
    Calls Tryz.prog 10 #[.agg #[.int .i64 fuel, v]] w fun e w' => e = .returned (.tuple #[.pointer none, .int .i64 (Pg.checkE fuel xs).1]) ∧ Below w.heap.size w w' := by
  have HC := hide (fun w1 h1 => rcheck_any fuel xs hx v w1 h1)
  have HCd := hide h
  obtain ⟨p, cap, rfl, -⟩ := h
  clear hx
  generalize Pg.checkE fuel xs = E at *
  have hb : (E.1 != 0) = true := by rw [bne_iff_ne]; exact hc
  clear hc
  go_enter Tryz.func10, Tryz.ntmps10
  go_wp2_with fail
  refine (HC.out _ (HCd.out.below (below_one w _) (Nat.le_refl _))).mono ?_
  rintro e w1 ⟨rfl, hb1⟩
  go_wp2_with fail
  go_ret2
  exact ⟨rfl, (below_one w _).trans (hb1.mono (by simp))⟩
set_option maxRecDepth 20000 in
set_option maxHeartbeats 2000000 in
theorem rnew_ok {w : World} {v : Value} {fuel : Nat} {xs : List In} (hx : ∀ x ∈ xs, x.Fits) (h : Cd w v xs) (hc : Pg.checkE fuel xs = (0, 0)) (h0 : 0 < xs.length) (h64 : xs.length ≤ 64) :
    Calls Tryz.prog 10 #[.agg #[.int .i64 (fuel : Int), v]] w fun e w' => ∃ B v', e = .returned (.tuple #[.pointer (some ⟨B, 0, none⟩), .int .i64 0]) ∧ Dm w' B Im.m0 v' (.slice none 0 0) (.slice none 0 0) xs fuel ∧ w.heap.size ≤ B ∧ Below w.heap.size w w' := by
  have HC := hide (fun w1 h1 => rcheck_any fuel xs hx v w1 h1)
  rw [hc] at HC
  have HCd := hide h
  obtain ⟨i0, hi0, hz0, hz1, hz2⟩ := info_parts infoIns
  obtain ⟨p, cap, rfl, h2⟩ := h
  obtain ⟨g, off, rfl, hg, hcl⟩ := h2 h0
  have HCl := hide hcl
  clear hc hx h2 hcl
  go_enter Tryz.func10, Tryz.ntmps10
  go_wp2_with fail
  refine (HC.out _ (HCd.out.below (below_one w _) (Nat.le_refl _))).mono ?_
  rintro e w1 ⟨rfl, hb1⟩
  have HB1 : Hid (Below w.heap.size w w1) := (below_one w _).trans (hb1.mono (by simp))
  have hp : w1.heap[w.heap.size]? = some (.cells #[.int .i64 (fuel : Int), .slice (some ⟨g, off, none⟩) xs.length cap] 24 (0, 0)) := (hb1.block w.heap.size (by simp)).trans (heap_alloc_new w _)
  have HPW := hide hp
  have p0 : w1.cell? ⟨w.heap.size, 0, none⟩ = some (.int .i64 (fuel : Int)) := by simp [World.cell?, hp]
  have p1 : w1.cell? ⟨w.heap.size, 1, none⟩ = some (.slice (some ⟨g, off, none⟩) xs.length cap) := by simp [World.cell?, hp]
  have pz : ∀ i, w1.frozen? ⟨w.heap.size, i, none⟩ = false := fun i => by simp [World.frozen?, hp]
  have hpl : w.heap.size < w1.heap.size := lt_of_block hp
  have HCX : Hid (∀ j u, (flatI xs)[j]? = some u → w1.cell? ((⟨g, off, none⟩ : Addr).add j) = some u) := fun j u hu => by
    rw [addr_add]
    obtain ⟨h1, h3⟩ := flatI_at hu
    have := HCl.out (j / 6) h1 (j % 6) u h3
    rw [show off + j / 6 * 6 + j % 6 = off + j by omega] at this
    exact (HB1.out.cell (p := ⟨g, off + j, none⟩) hg).trans this
  clear hb1 hp
  go_wp2_with (at_builtin; refine wpList_append_own _ rfl _ _ 22 rfl w1.heap.size 66 i0 (.agg #[.int .i64 0, .int .i64 0, .int .i64 0, .int .i64 0, .int .i64 0, .int .u64 0]) 6 48 Tryz.underlying22 hi0 hz0 hz1 hz2 rfl (by decide) (.slice (some ⟨w1.heap.size, 0, none⟩) 0 0) 0 [] rfl (World.ownsRow_made w1 #[] 0 (Nat.le_refl _) (by decide) rfl) ⟨g, off, none⟩ xs.length cap (flatI xs) rfl (flatI_len xs) (fun j u hu => Lib.cell?_alloc_some _ (HCX.out j u hu)) (flatI_one xs) (by unfold maxLen; omega) (by omega) (by rw [World.size_alloc]; omega) ?_; intro v' w2 hown hgrow hnil; rw [Nat.zero_add, List.nil_append] at hown; obtain ⟨g2, cap2, rfl⟩ := own_some hown h0; have HP2 := hide ((hgrow.block w.heap.size (by rw [World.size_alloc]; omega) (by simp only [Value.ownBlock]; intro e; injection e with e; omega)).trans ((heap_alloc_old w1 _ hpl).trans HPW.out)); have r0 : w2.cell? ⟨w.heap.size, 0, none⟩ = some (.int .i64 (fuel : Int)) := cell_of_block HP2.out rfl; have r1 : w2.cell? ⟨w.heap.size, 1, none⟩ = some (.slice (some ⟨g, off, none⟩) xs.length cap) := cell_of_block HP2.out rfl; have rz := (two_ofP HP2.out).2.1; have hpl2 := lt_of_block HP2.out; have HOW := hide hown; have HGR := hide hgrow; clear hown hgrow hnil)
  go_ret2
  have g1 : w1.grownBy w2 (some w1.heap.size) := grown_trans (grown_one w1 _ _) HGR.out
  have g2b := HOW.out.lt g2 rfl
  have gs := grown_set w2 w.heap.size 1 (.slice (some ⟨g2, 0, none⟩) xs.length cap2)
  have hB : Below w.heap.size w (w2.setCell ⟨w.heap.size, 1, none⟩ (.slice (some ⟨g2, 0, none⟩) xs.length cap2)) := HB1.out.trans (below_of_grown g1 gs (by omega) (Nat.le_refl _) (by omega))
  refine ⟨w2.heap.size, .slice (some ⟨g2, 0, none⟩) xs.length cap2, rfl, ⟨⟨blk_new w2 w.heap.size 1 _ _, rfl⟩, World.ownsRow_nil _ _ _ _, World.ownsRow_nil _ _ _ _, (fun g e => by cases e), ⟨g2, 0, cap2, rfl, g2b.2, fun j hj i u hi => ?_⟩⟩, by omega, hB.trans ((below_one _ _).mono hB.size)⟩
  obtain ⟨b, off', cp, hv, hb, hne, hcells⟩ := own_cdn (B := w.heap.size) HOW.out h0 (fun e => by simp only [Value.ownBlock] at e; injection e with e; omega)
  injection hv with e1 e2 e3
  injection e1 with e1
  injection e1 with e1 e4
  subst e1 e4
  exact (grown_one _ _ none).cell (gs.cell (hcells j hj i u hi) (by simp; omega)) (by simp)
/-- the rows of an outcome beside the machine's own -/
structure Rw4 (w : World) (base : Nat) (cv pv nv qv : Value) (c p : List ByteArray) : Prop where
  r : Rows2 w base cv pv c p
  a1 : ∀ g, cv.ownBlock = some g → nv.ownBlock ≠ some g ∧ qv.ownBlock ≠ some g
  a2 : ∀ g, pv.ownBlock = some g → nv.ownBlock ≠ some g ∧ qv.ownBlock ≠ some g
theorem rown_mw {w w' : World} {F G : Nat → Prop} {base e size n : Nat} {v : Value} {xs : List Value} (h : w.ownsRow base e size v n xs) (k : Mw F G w w') (hn : ∀ g, v.ownBlock = some g → ¬ F g) : w'.ownsRow base e size v n xs := by
  refine ⟨h.1, ?_⟩
  rcases h.2 with h1 | ⟨g, cap, cur, rfl, hk, hh, h2⟩
  · exact .inl h1
  · exact .inr ⟨g, cap, cur, rfl, hk, (k.block g (lt_of_block hh) (hn g rfl)).trans hh, h2⟩
theorem Rw4.step {w w' : World} {base B : Nat} {cv pv nv qv nv' qv' : Value} {c p : List ByteArray} (h : Rw4 w base cv pv nv qv c p) (k : Mw (ftD B nv qv) (ftD B nv' qv') w w') (hB : B < base) : Rw4 w' base cv pv nv' qv' c p := by
  have h1 : ∀ g, cv.ownBlock = some g → ¬ ftD B nv qv g := fun g e f => by
    rcases f with f | f | f
    · have := (h.r.c.lt g e).1; omega
    · exact (h.a1 g e).1 f
    · exact (h.a1 g e).2 f
  have h2 : ∀ g, pv.ownBlock = some g → ¬ ftD B nv qv g := fun g e f => by
    rcases f with f | f | f
    · have := (h.r.p.lt g e).1; omega
    · exact (h.a2 g e).1 f
    · exact (h.a2 g e).2 f
  refine ⟨⟨rown_mw h.r.c k h1, rown_mw h.r.p k h2, h.r.apart⟩, fun g e => ⟨fun f => ?_, fun f => ?_⟩, fun g e => ⟨fun f => ?_, fun f => ?_⟩⟩
  · rcases k.foot g (.inr (.inl f)) with q | q
    · exact h1 g e q
    · have := (h.r.c.lt g e).2; omega
  · rcases k.foot g (.inr (.inr f)) with q | q
    · exact h1 g e q
    · have := (h.r.c.lt g e).2; omega
  · rcases k.foot g (.inr (.inl f)) with q | q
    · exact h2 g e q
    · have := (h.r.p.lt g e).2; omega
  · rcases k.foot g (.inr (.inr f)) with q | q
    · exact h2 g e q
    · have := (h.r.p.lt g e).2; omega
/-- the count in the document's machine's block -/
def dnAt (w : World) (B : Nat) : Nat := match w.cell? ⟨B, 3, none⟩ with
  | some (.int _ z) => z.toNat
  | _ => 0
theorem dn_at {w : World} {B fuel : Nat} {d : Dc} {v nv pv : Value} (h : Rb w B d v nv pv fuel) : dnAt w B = d.dn := by
  unfold dnAt
  rw [h.cell (Dc.g_dn h.r8 v nv pv fuel)]
  exact Int.toNat_natCast _
theorem stp_kind (xs : List In) (fuel : Nat) (m : Mc) : (Im.stp xs fuel m).2.1 ≤ 2 := by
  have h := doM_told (Im.ready m) xs[m.pl]! xs.length
  unfold Im.stp
  split
  · rename_i h0
    rcases h h0 with k | k | k
    · show (Im.doM (Im.ready m) xs[m.pl]! xs.length).2.2.1 ≤ 2; rw [k.1]; decide
    · show (Im.doM (Im.ready m) xs[m.pl]! xs.length).2.2.1 ≤ 2; rw [k.1]; decide
    · show (Im.doM (Im.ready m) xs[m.pl]! xs.length).2.2.1 ≤ 2; rw [k.1]; exact Nat.le_refl _
  · exact Nat.zero_le _
set_option maxRecDepth 20000 in
set_option maxHeartbeats 4000000 in
theorem rwhole_ok {w : World} {v : Value} {fuel : Nat} {xs : List In} (hx : ∀ x ∈ xs, x.Fits) (h : Cd w v xs) (hc : Pg.checkE fuel xs = (0, 0)) (hp : Pok fuel xs) :
    Calls Tryz.prog 18 #[.agg #[.int .i64 (fuel : Int), v]] w fun e w' => ∃ o, e = .returned (.tuple #[o, .int .i64 0]) ∧ Out w' w.heap.size o (Im.end_ xs fuel) ∧ Below w.heap.size w w' := by
  have h0 : 0 < xs.length := hp.l1
  have HN := hide (fun w1 (h1 : Cd w1 v xs) => rnew_ok hx h1 hc h0 hp.l2)
  have HCd := hide h
  have HP := hide hp
  obtain ⟨p, cap, rfl, -⟩ := h
  have hf1 := hp.f2
  have hl2 := hp.l2
  clear hx hc hp
  go_enter Tryz.func18, Tryz.ntmps18
  go_wp2_with fail
  have hW : Below w.heap.size w ((w.alloc (.cells #[.int .i64 (fuel : Int), .slice p xs.length cap] 24)).alloc (.cells #[.int .i64 0, .int .u64 0, .slice none 0 0, .slice none 0 0, .int .i64 0] 48)) := (below_one w _).trans ((below_one _ _).mono (by simp))
  refine (HN.out _ (HCd.out.below hW (Nat.le_refl _))).mono ?_
  rintro e w1 ⟨B, v1, rfl, hdm, hB, hb1⟩
  have hr : w1.heap[w.heap.size + 1]? = some (.cells #[.int .i64 0, .int .u64 0, .slice none 0 0, .slice none 0 0, .int .i64 0] 48 (0, 0)) := (hb1.block (w.heap.size + 1) (by simp)).trans (by have q := heap_alloc_new (w.alloc (.cells #[.int .i64 (fuel : Int), .slice p xs.length cap] 24)) (.cells #[.int .i64 0, .int .u64 0, .slice none 0 0, .slice none 0 0, .int .i64 0] 48); rw [World.size_alloc] at q; exact q)
  have HB1 : Hid (Below w.heap.size w w1) := hW.trans (hb1.mono (by simp; omega))
  have HR := hide hr
  simp only [World.size_alloc] at hB
  have HDm := hide hdm
  have hBl : B < w1.heap.size := hdm.b.lt
  have hrl := lt_of_block hr
  obtain ⟨O, hOe⟩ : ∃ O, w1.heap.size = O := ⟨_, rfl⟩
  have HI0 := hide (m0_ok xs.length fuel h0 HP.out.f1)
  clear hb1 hdm hr
  go_wp2_with fail
  go_loopw [] (fun wr => ∃ (k : Nat) (nv pv cv qv : Value), Hid (Dm wr B (Im.itr xs fuel Im.m0 k).1 v1 nv pv xs fuel) ∧ Hid (Ob wr O cv qv) ∧ Hid (Rw4 wr (O + 1) cv qv nv pv (Im.chk (Im.itr xs fuel Im.m0 k).2) (Im.pcs (Im.itr xs fuel Im.m0 k).2)) ∧ Hid (¬ ftD B nv pv O) ∧ Hid (wr.heap[w.heap.size + 1]? = some (.cells #[.int .i64 0, .int .u64 0, .slice none 0 0, .slice none 0 0, .int .i64 0] 48 (0, 0))) ∧ Hid (Below w.heap.size w wr)) (fun wr => fuel - dnAt wr B)
  case atStart =>
    refine ⟨0, .slice none 0 0, .slice none 0 0, .slice none 0 0, .slice none 0 0, HDm.out.below (below_one w1 _), by rw [← hOe]; exact heap_alloc_new w1 _, ⟨⟨World.ownsRow_nil _ _ _ _, World.ownsRow_nil _ _ _ _, (fun g e => by cases e)⟩, (fun g e => by cases e), (fun g e => by cases e)⟩, ?_, (heap_alloc_old w1 _ hrl).trans HR.out, HB1.out.trans ((below_one w1 _).mono HB1.out.size)⟩
    rintro (f | f | f)
    · omega
    · cases f
    · cases f
  case round =>
    obtain ⟨k, nv, pv, cv, qv, HDk, HOk, HRk, HNk, HRR, HBk⟩ := hrel
    have hok := itr_ok HI0.out HP.out.good k
    have hnx : Im.itr xs fuel Im.m0 (k + 1) = Im.nxt xs fuel (Im.itr xs fuel Im.m0 k) := rfl
    have htd := told_itr xs fuel k
    obtain ⟨I, hI⟩ : ∃ I, Im.itr xs fuel Im.m0 k = I := ⟨_, rfl⟩
    rw [hI] at HDk HRk hok hnx htd
    have HI := hide hI
    have HOK := hide hok
    have hc32 : (Im.chk I.2).length ≤ 32 := by rw [htd.c]; exact hok.ch
    have hp16 : (Im.pcs I.2).length ≤ 16 := by rw [htd.p]; exact hok.pc
    have c16 : wr.cell? ⟨B, 16, none⟩ = some (.bool I.1.ov) := HDk.out.b.cell (Dc.g_ov HDk.out.b.r8 _ _ _ fuel)
    have hltk := HDk.out.b.lt
    by_cases ho : I.1.ov = true
    · rw [ho] at c16
      have hIE : I = Im.end_ xs fuel := HI.out.symm.trans (itr_full HP.out (by rw [HI.out]; exact ho))
      have HIE := hide hIE
      have c3 : wr.cell? ⟨B, 3, none⟩ = some (.int .i64 (I.1.dn : Int)) := HDk.out.b.cell (Dc.g_dn HDk.out.b.r8 _ _ _ fuel)
      have c17 : wr.cell? ⟨B, 17, none⟩ = some (.int .i64 (I.1.en : Int)) := HDk.out.b.cell (Dc.g_rc HDk.out.b.r8 _ _ _ fuel)
      have c18 : wr.cell? ⟨B, 18, none⟩ = some (.int .u64 (Im.resB I.1 : Int)) := HDk.out.b.cell (Dc.g_rb HDk.out.b.r8 _ _ _ fuel)
      obtain ⟨o2, o3, o0, o1, o4, oz⟩ := HOk.out.cells
      obtain ⟨r0, r1, r2, r3, r4, rz⟩ := five_of HRR.out
      have hOk := HOk.out.lt
      have hRk := lt_of_block HRR.out
      have hneO : ¬ O = w.heap.size + 1 := by omega
      have hneO2 : ¬ w.heap.size + 1 = O := by omega
      have hneB : ¬ O = B := by omega
      have hneB2 : ¬ B = O := by omega
      have hneB3 : ¬ w.heap.size + 1 = B := by omega
      have hneB4 : ¬ B = w.heap.size + 1 := by omega
      obtain ⟨adc, capc, rfl⟩ := rown_slice HRk.out.r.c
      obtain ⟨adp, capp, rfl⟩ := rown_slice HRk.out.r.p
      clear hIE hok htd hI hnx
      go_wp2_with fail
      have hY : (((wr.setCell ⟨O, 0, none⟩ (.int .i64 (I.1.en : Int))).setCell ⟨O, 1, none⟩ (.int .u64 (Im.resB I.1 : Int))).setCell ⟨O, 4, none⟩ (.int .i64 (I.1.dn : Int))).heap[w.heap.size + 1]? = some (.cells #[.int .i64 0, .int .u64 0, .slice none 0 0, .slice none 0 0, .int .i64 0] 48 (0, 0)) :=
        (Below.heap_setCell _ ⟨O, 4, none⟩ _ _ (by show w.heap.size + 1 ≠ O; omega)).trans ((Below.heap_setCell _ ⟨O, 1, none⟩ _ _ (by show w.heap.size + 1 ≠ O; omega)).trans ((Below.heap_setCell _ ⟨O, 0, none⟩ _ _ (by show w.heap.size + 1 ≠ O; omega)).trans HRR.out))
      have gB := grown_trans (grown_set wr O 0 (.int .i64 (I.1.en : Int))) (grown_trans (grown_set _ O 1 (.int .u64 (Im.resB I.1 : Int))) (grown_set _ O 4 (.int .i64 (I.1.dn : Int))))
      generalize ((wr.setCell ⟨O, 0, none⟩ (.int .i64 (I.1.en : Int))).setCell ⟨O, 1, none⟩ (.int .u64 (Im.resB I.1 : Int))).setCell ⟨O, 4, none⟩ (.int .i64 (I.1.dn : Int)) = W9 at *
      have q1 := block_set (block_set (block_set (block_set (block_set hY 0 (.int .i64 (I.1.en : Int))) 1 (.int .u64 (Im.resB I.1 : Int))) 2 (.slice adc (Im.chk I.2).length capc)) 3 (.slice adp (Im.pcs I.2).length capp)) 4 (.int .i64 (I.1.dn : Int))
      have gC := grown_trans (grown_set W9 (w.heap.size + 1) 0 (.int .i64 (I.1.en : Int))) (grown_trans (grown_set _ (w.heap.size + 1) 1 (.int .u64 (Im.resB I.1 : Int))) (grown_trans (grown_set _ (w.heap.size + 1) 2 (.slice adc (Im.chk I.2).length capc)) (grown_trans (grown_set _ (w.heap.size + 1) 3 (.slice adp (Im.pcs I.2).length capp)) (grown_set _ (w.heap.size + 1) 4 (.int .i64 (I.1.dn : Int))))))
      have hfin : ∀ (c : Value) (n : Nat) (l : List Value), wr.ownsRow (O + 1) 9 1 c n l → _ := fun c n l hr => rown_low (rown_grown (rown_grown hr gB (fun k e e2 => by have := (hr.lt k e).1; injection e2 with e2; omega)) gC (fun k e e2 => by have := (hr.lt k e).1; injection e2 with e2; omega)) (show w.heap.size ≤ O + 1 by omega)
      refine bodyPost_ret (res5 rfl _ _ (w.heap.size + 1) _ (.int .i64 0) rfl rfl q1 rfl) rfl ⟨_, rfl, ?_, ?_⟩
      · rw [← HIE.out]
        exact ⟨_, _, by rw [resC_en]; rfl, hfin _ _ _ HRk.out.r.c, hfin _ _ _ HRk.out.r.p⟩
      · exact HBk.out.trans (below_of_grown gB gC (by omega) (by omega) HBk.out.size)
    · rw [Bool.not_eq_true] at ho
      rw [ho] at c16
      rw [nxt_live ho] at hnx
      have HS := hide (rstep_live HDk.out ho HOK.out HP.out.good (by omega) (by omega))
      have hkd := stp_kind xs fuel I.1
      have hlv := (hok.live ho).2.1
      obtain ⟨kd, hkde⟩ : ∃ kd, (Im.stp xs fuel I.1).2.1 = kd := ⟨_, rfl⟩
      obtain ⟨tx, htxe⟩ : ∃ tx, (Im.stp xs fuel I.1).2.2 = tx := ⟨_, rfl⟩
      have hpr : (Im.stp xs fuel I.1).2 = (kd, tx) := by rw [← hkde, ← htxe]
      rw [hpr] at hnx hkd
      simp only at hnx hkd
      clear hok htd hI
      go_wp2_with fail
      refine HS.out.mono ?_
      rintro e w6 ⟨nv6, pv6, rfl, hd6, hm6⟩
      rw [hkde, htxe]
      have HO6 : Hid (Ob w6 O cv qv) := (hm6.block O HOk.out.lt HNk.out).trans HOk.out
      have HR6 := hide (HRk.out.step hm6 (by omega))
      have hnO : ¬ ftD B nv6 pv6 O := fun f => (hm6.foot O f).elim HNk.out (fun q => by have := HOk.out.lt; omega)
      have hrn : ¬ ftD B nv pv (w.heap.size + 1) := by
        rintro (f | f | f)
        · omega
        · have := (HDk.out.n.lt _ f).1; omega
        · have := (HDk.out.p.lt _ f).1; omega
      have HRR6 := hide ((hm6.block _ (lt_of_block HRR.out) hrn).trans HRR.out)
      have HB6 : Hid (Below w.heap.size w w6) := HBk.out.trans ⟨hm6.os, hm6.tape, hm6.output, hm6.size, fun kk hk => hm6.block kk (by have := HBk.out.size; omega) (by
        rintro (f | f | f)
        · omega
        · have := (HDk.out.n.lt _ f).1; omega
        · have := (HDk.out.p.lt _ f).1; omega)⟩
      have HD6 := hide hd6
      have hsz6 : O + 1 ≤ w6.heap.size := HO6.out.lt
      have o2 := HO6.out.cells.1
      have o3 := HO6.out.cells.2.1
      have oz := HO6.out.cells.2.2.2.2.2
      have hO6 := HO6.out.lt
      have HNX := hide hnx
      clear hm6 hd6 hnx hrn
      obtain ⟨i0, hi0, hz0, hz1, hz2⟩ := info_parts infoStr
      by_cases h0k : kd = 0
      · have hk1 : ((kd : Int) == 1) = false := by rw [h0k]; rfl
        have hk2 : ((kd : Int) == 2) = false := by rw [h0k]; rfl
        have HN2 : Hid (Im.itr xs fuel Im.m0 (k + 1) = ((Im.stp xs fuel I.1).1, I.2)) := by have := HNX.out; rw [if_pos h0k] at this; exact this
        go_wp2_with fail
        go_roundw
        case rel => exact ⟨k + 1, nv6, pv6, cv, qv, by rw [HN2.out]; exact HD6.out, HO6.out, by rw [HN2.out]; exact HR6.out, hnO, HRR6.out, HB6.out⟩
        case measure =>
          have e1 := dn_at HD6.out.b
          have e2 := dn_at HDk.out.b
          rw [e1, e2]
          show fuel - (Im.stp xs fuel I.1).1.dn < fuel - I.1.dn
          rw [stp_dn]
          omega
      · rw [if_neg h0k] at HNX
        obtain ⟨adc, capc, rfl⟩ := rown_slice HR6.out.r.c
        obtain ⟨adp, capp, rfl⟩ := rown_slice HR6.out.r.p
        have HTC := hide (chk_app I.2 (kd, tx))
        have HTP := hide (pcs_app I.2 (kd, tx))
        simp only at HTC HTP
        by_cases h1k : kd = 1
        · rw [if_pos h1k] at HTC HTP
          have hk1 : ((kd : Int) == 1) = true := by rw [h1k]; rfl
          have hk2 : ((kd : Int) == 2) = false := by rw [h1k]; rfl
          go_wp2_with (at_builtin; refine wpList_append_lies _ rfl (.tmp 34) (.tmp 36) 46 rfl (O + 1) 9 i0 (.string ⟨#[]⟩) 1 16 Tryz.underlying46 hi0 hz0 hz1 hz2 rfl (by decide) (.slice adc (Im.chk I.2).length capc) (Im.chk I.2).length (Im.strs (Im.chk I.2)) rfl (rown_grown HR6.out.r.c (grown_one w6 (.cells #[.string tx] 9) none) (fun _ _ => by simp)) ⟨w6.heap.size, 0, none⟩ 1 1 [.string tx] rfl (by simp) (World.news_of_block (cs := #[.string tx]) (t := 9) (fr := (0, 0)) (heap_alloc_new w6 (.cells #[.string tx] 9))) (by simp [Value.oneCell']) (by decide) (by unfold maxLen; omega) (by omega) (by rw [World.size_alloc]; omega) (w6.heap.size + 1) (by rw [World.size_alloc]) ?_; intro g7 cap7 w7 hown hgrow hat hlt7; have HO7 := hide ((HO6.out.grown (grown_one w6 (.cells #[.string tx] 9) none) (by simp)).grown hgrow (fun e => absurd (HR6.out.r.c.lt O e.symm).1 (Nat.not_succ_le_self _))); have d2 := HO7.out.cells.1; have d3 := HO7.out.cells.2.1; have dz := HO7.out.cells.2.2.2.2.2; have hO7 := HO7.out.lt; have HOW := hide hown; have HGR := hide hgrow; have HAT := hide hat; clear hown hgrow hat)
          have h8 : w7.grownBy (w7.setCell ⟨O, 2, none⟩ (.slice (some ⟨g7, 0, none⟩) ((Im.chk I.2).length + 1) cap7)) (some O) := grown_set _ _ _ _
          have hrows := rows2_add HR6.out.r (grown_one w6 (.cells #[.string tx] 9) none) rfl HOW.out rfl HGR.out (HAT.out.imp id (fun e => by rw [e, World.size_alloc])) (show O < O + 1 by omega) h8
          have hF7 : Mw (fun g => (Value.slice adc (Im.chk I.2).length capc).ownBlock = some g ∨ g = O) (fun g => (Value.slice adc (Im.chk I.2).length capc).ownBlock = some g ∨ g = O) w6 (w7.setCell ⟨O, 2, none⟩ (.slice (some ⟨g7, 0, none⟩) ((Im.chk I.2).length + 1) cap7)) := ((mw_grown (grown_one w6 (.cells #[.string tx] 9) none) (fun k e => by cases e)).trans (mw_grown HGR.out (fun k e => .inl e))).trans (mw_grown h8 (fun k e => .inr (by injection e with e; exact e.symm)))
          have hapn : ∀ g, Value.ownBlock (.slice (some ⟨g7, 0, none⟩) ((Im.chk I.2).length + 1) cap7) = some g → nv6.ownBlock ≠ some g ∧ pv6.ownBlock ≠ some g := fun g e => by
            simp only [Value.ownBlock] at e
            injection e with e
            subst e
            rcases HAT.out with q | q
            · exact HR6.out.a1 _ q
            · exact ⟨fun f => by have := (HD6.out.n.lt _ f).2; omega, fun f => by have := (HD6.out.p.lt _ f).2; omega⟩
          have hdm8 := HD6.out.mw hF7 (fun f => f.elim (fun e => by have := (HR6.out.r.c.lt B e).1; omega) (fun e => by omega)) (fun g e f => f.elim (fun q => (HR6.out.a1 g q).1 e) (fun q => hnO (.inr (.inl (q ▸ e))))) (fun g e f => f.elim (fun q => (HR6.out.a1 g q).2 e) (fun q => hnO (.inr (.inr (q ▸ e))))) (fun g e f => f.elim (fun q => by have := (HR6.out.r.c.lt g q).1; omega) (fun q => by omega))
          have hr8 := (hF7.block (w.heap.size + 1) (lt_of_block HRR6.out) (fun f => f.elim (fun q => by have := (HR6.out.r.c.lt _ q).1; omega) (fun q => by omega))).trans HRR6.out
          have hb8 : Below w.heap.size w (w7.setCell ⟨O, 2, none⟩ (.slice (some ⟨g7, 0, none⟩) ((Im.chk I.2).length + 1) cap7)) := HB6.out.trans ⟨hF7.os, hF7.tape, hF7.output, hF7.size, fun kk hk => hF7.block kk (by have := HB6.out.size; omega) (fun f => f.elim (fun q => by have := (HR6.out.r.c.lt _ q).1; omega) (fun q => by omega))⟩
          go_roundw
          case rel => exact ⟨k + 1, nv6, pv6, _, _, by rw [HNX.out]; exact hdm8, HO7.out.set2 _, by rw [HNX.out]; show Rw4 _ _ _ _ _ _ (Im.chk (I.2 ++ [(kd, tx)])) (Im.pcs (I.2 ++ [(kd, tx)])); rw [HTC.out, HTP.out]; exact ⟨hrows, hapn, HR6.out.a2⟩, hnO, hr8, hb8⟩
          case measure =>
            have e1 := dn_at hdm8.b
            have e2 := dn_at HDk.out.b
            rw [e1, e2]
            show fuel - (Im.stp xs fuel I.1).1.dn < fuel - I.1.dn
            rw [stp_dn]
            omega
        · rw [if_neg h1k] at HTC HTP
          have hk1 : ((kd : Int) == 1) = false := by rw [beq_eq_false_iff_ne]; omega
          have hk2 : ((kd : Int) == 2) = true := by rw [beq_iff_eq]; omega
          go_wp2_with (at_builtin; refine wpList_append_lies _ rfl (.tmp 42) (.tmp 44) 46 rfl (O + 1) 9 i0 (.string ⟨#[]⟩) 1 16 Tryz.underlying46 hi0 hz0 hz1 hz2 rfl (by decide) (.slice adp (Im.pcs I.2).length capp) (Im.pcs I.2).length (Im.strs (Im.pcs I.2)) rfl (rown_grown HR6.out.r.p (grown_one w6 (.cells #[.string tx] 9) none) (fun _ _ => by simp)) ⟨w6.heap.size, 0, none⟩ 1 1 [.string tx] rfl (by simp) (World.news_of_block (cs := #[.string tx]) (t := 9) (fr := (0, 0)) (heap_alloc_new w6 (.cells #[.string tx] 9))) (by simp [Value.oneCell']) (by decide) (by unfold maxLen; omega) (by omega) (by rw [World.size_alloc]; omega) (w6.heap.size + 1) (by rw [World.size_alloc]) ?_; intro g7 cap7 w7 hown hgrow hat hlt7; have HO7 := hide ((HO6.out.grown (grown_one w6 (.cells #[.string tx] 9) none) (by simp)).grown hgrow (fun e => absurd (HR6.out.r.p.lt O e.symm).1 (Nat.not_succ_le_self _))); have d2 := HO7.out.cells.1; have d3 := HO7.out.cells.2.1; have dz := HO7.out.cells.2.2.2.2.2; have hO7 := HO7.out.lt; have HOW := hide hown; have HGR := hide hgrow; have HAT := hide hat; clear hown hgrow hat)
          have h8 : w7.grownBy (w7.setCell ⟨O, 3, none⟩ (.slice (some ⟨g7, 0, none⟩) ((Im.pcs I.2).length + 1) cap7)) (some O) := grown_set _ _ _ _
          have hrows := rows2_add HR6.out.r.swap (grown_one w6 (.cells #[.string tx] 9) none) rfl HOW.out rfl HGR.out (HAT.out.imp id (fun e => by rw [e, World.size_alloc])) (show O < O + 1 by omega) h8
          have hF7 : Mw (fun g => (Value.slice adp (Im.pcs I.2).length capp).ownBlock = some g ∨ g = O) (fun g => (Value.slice adp (Im.pcs I.2).length capp).ownBlock = some g ∨ g = O) w6 (w7.setCell ⟨O, 3, none⟩ (.slice (some ⟨g7, 0, none⟩) ((Im.pcs I.2).length + 1) cap7)) := ((mw_grown (grown_one w6 (.cells #[.string tx] 9) none) (fun k e => by cases e)).trans (mw_grown HGR.out (fun k e => .inl e))).trans (mw_grown h8 (fun k e => .inr (by injection e with e; exact e.symm)))
          have hapn : ∀ g, Value.ownBlock (.slice (some ⟨g7, 0, none⟩) ((Im.pcs I.2).length + 1) cap7) = some g → nv6.ownBlock ≠ some g ∧ pv6.ownBlock ≠ some g := fun g e => by
            simp only [Value.ownBlock] at e
            injection e with e
            subst e
            rcases HAT.out with q | q
            · exact HR6.out.a2 _ q
            · exact ⟨fun f => by have := (HD6.out.n.lt _ f).2; omega, fun f => by have := (HD6.out.p.lt _ f).2; omega⟩
          have hdm8 := HD6.out.mw hF7 (fun f => f.elim (fun e => by have := (HR6.out.r.p.lt B e).1; omega) (fun e => by omega)) (fun g e f => f.elim (fun q => (HR6.out.a2 g q).1 e) (fun q => hnO (.inr (.inl (q ▸ e))))) (fun g e f => f.elim (fun q => (HR6.out.a2 g q).2 e) (fun q => hnO (.inr (.inr (q ▸ e))))) (fun g e f => f.elim (fun q => by have := (HR6.out.r.p.lt g q).1; omega) (fun q => by omega))
          have hr8 := (hF7.block (w.heap.size + 1) (lt_of_block HRR6.out) (fun f => f.elim (fun q => by have := (HR6.out.r.p.lt _ q).1; omega) (fun q => by omega))).trans HRR6.out
          have hb8 : Below w.heap.size w (w7.setCell ⟨O, 3, none⟩ (.slice (some ⟨g7, 0, none⟩) ((Im.pcs I.2).length + 1) cap7)) := HB6.out.trans ⟨hF7.os, hF7.tape, hF7.output, hF7.size, fun kk hk => hF7.block kk (by have := HB6.out.size; omega) (fun f => f.elim (fun q => by have := (HR6.out.r.p.lt _ q).1; omega) (fun q => by omega))⟩
          go_roundw
          case rel => exact ⟨k + 1, nv6, pv6, _, _, by rw [HNX.out]; exact hdm8, HO7.out.set3 _, by rw [HNX.out]; show Rw4 _ _ _ _ _ _ (Im.chk (I.2 ++ [(kd, tx)])) (Im.pcs (I.2 ++ [(kd, tx)])); rw [HTC.out, HTP.out]; exact ⟨hrows.swap, HR6.out.a1, hapn⟩, hnO, hr8, hb8⟩
          case measure =>
            have e1 := dn_at hdm8.b
            have e2 := dn_at HDk.out.b
            rw [e1, e2]
            show fuel - (Im.stp xs fuel I.1).1.dn < fuel - I.1.dn
            rw [stp_dn]
            omega
set_option maxRecDepth 20000 in
set_option maxHeartbeats 2000000 in
theorem rwhole_no {w : World} {v : Value} {fuel : Int} {xs : List In} (hx : ∀ x ∈ xs, x.Fits) (h : Cd w v xs) (hc : (Pg.checkE fuel xs).1 ≠ 0) :
    Calls Tryz.prog 18 #[.agg #[.int .i64 fuel, v]] w fun e w' => e = .returned (.tuple #[.agg #[.int .i64 0, .int .u64 0, .slice none 0 0, .slice none 0 0, .int .i64 0], .int .i64 (Pg.checkE fuel xs).1]) ∧ Below w.heap.size w w' := by
  have HN := hide (fun w1 (h1 : Cd w1 v xs) => rnew_no hx h1 hc)
  have HCd := hide h
  obtain ⟨p, cap, rfl, -⟩ := h
  generalize Pg.checkE fuel xs = E at *
  have hb : (E.1 != 0) = true := by rw [bne_iff_ne]; exact hc
  clear hc hx
  go_enter Tryz.func18, Tryz.ntmps18
  go_wp2_with fail
  have hW : Below w.heap.size w ((w.alloc (.cells #[.int .i64 fuel, .slice p xs.length cap] 24)).alloc (.cells #[.int .i64 0, .int .u64 0, .slice none 0 0, .slice none 0 0, .int .i64 0] 48)) := (below_one w _).trans ((below_one _ _).mono (by simp))
  refine (HN.out _ (HCd.out.below hW (Nat.le_refl _))).mono ?_
  rintro e w1 ⟨rfl, hb1⟩
  have hr : w1.heap[w.heap.size + 1]? = some (.cells #[.int .i64 0, .int .u64 0, .slice none 0 0, .slice none 0 0, .int .i64 0] 48 (0, 0)) := (hb1.block (w.heap.size + 1) (by simp)).trans (by have q := heap_alloc_new (w.alloc (.cells #[.int .i64 fuel, .slice p xs.length cap] 24)) (.cells #[.int .i64 0, .int .u64 0, .slice none 0 0, .slice none 0 0, .int .i64 0] 48); rw [World.size_alloc] at q; exact q)
  have HB1 : Hid (Below w.heap.size w w1) := hW.trans (hb1.mono (by simp; omega))
  have HR := hide hr
  obtain ⟨r0, r1, r2, r3, r4, rz⟩ := five_of hr
  clear hb1 hr
  go_wp2_with fail
  have q1 := block_set (block_set (block_set (block_set (block_set HR.out 0 (.int .i64 0)) 1 (.int .u64 0)) 2 (.slice none 0 0)) 3 (.slice none 0 0)) 4 (.int .i64 0)
  have gC := grown_trans (grown_set w1 (w.heap.size + 1) 0 (.int .i64 0)) (grown_trans (grown_set _ (w.heap.size + 1) 1 (.int .u64 0)) (grown_trans (grown_set _ (w.heap.size + 1) 2 (.slice none 0 0)) (grown_trans (grown_set _ (w.heap.size + 1) 3 (.slice none 0 0)) (grown_set _ (w.heap.size + 1) 4 (.int .i64 0)))))
  exact bodyPost_ret (res5 rfl _ _ (w.heap.size + 1) _ (.int .i64 E.1) rfl rfl q1 rfl) rfl ⟨rfl, HB1.out.trans (below_of_grown (grown_none w1 0 (some (w.heap.size + 1))) gC (by omega) (by omega) HB1.out.size)⟩
end Go.Proofs.YthjngodkpldpfaaGreatDoor
end
