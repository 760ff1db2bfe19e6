import Derived.Test.YteiickpokabmoabWlP
namespace Go.Proofs.Yteiickpokabmoab
open Go.RowKit Go.Shelf
open Wl (Hd WS Log)

theorem mvW {w w5 w9 : World} {F F' : Nat → Prop} {W : Nat} (h5 : ∀ k, k < w.heap.size → k ≠ W → w5.heap[k]? = w.heap[k]?) (ho : w5.os = w.os) (ht : w5.tape = w.tape) (hu : w5.output = w.output) (hs : w.heap.size ≤ w5.heap.size) (hM : D.Mv F F' w5 w9) : D.Mv (FW F W) (FW F' W) w w9 :=
  ⟨hM.os.trans ho, hM.tape.trans ht, hM.output.trans hu, Nat.le_trans hs hM.size, fun k hk hn => (hM.block k (Nat.lt_of_lt_of_le hk hs) (fun h => hn (.inl h))).trans (h5 k hk (fun h => hn (.inr h))), fun k hk => by
    rcases hk with hk | hk
    · rcases hM.foot k hk with h | h
      · exact .inl (.inl h)
      · exact .inr (Nat.le_trans hs h)
    · exact .inl (.inr hk)⟩
set_option maxHeartbeats 2000000 in
set_option maxRecDepth 8000 in
theorem layRecord_any {base : Nat} {w : World} {b W : Nat} {F : Nat → Prop} {d : D.DS} {ws : WS} (h : D.Dk base w b F d) (hw : Wm w W b ws) (hFW : ¬ F W) (ho : Wl.Ok d ws) (hd : d.dead = false) (r : ByteArray) (hr2 : r.size ≤ 2048)
    (hfit : (Pk.enc r.size).length + r.size ≤ Wl.hb d.S.length - ws.h.used) (hR : (d.R.length + 600) * 24 ≤ 140737488355328) (hnum : ws.h.num < 1099511627776) :
    Calls Try.prog 23 #[.pointer (some ⟨W, 0, none⟩), .string r] w fun e w' => e = .returned (.int .i64 (Wl.layW d (Wl.place d ws.h) (Wl.sects (Wl.ahead d ws.h ++ Wl.frame r)) (Wl.hdA ws.h r)).1) ∧ Wm w' W b ⟨Wl.hdA ws.h r, ws.rc + 1, ws.gone⟩ ∧ ∃ F', D.Dk base w' b F' (Wl.layW d (Wl.place d ws.h) (Wl.sects (Wl.ahead d ws.h ++ Wl.frame r)) (Wl.hdA ws.h r)).2 ∧ D.Mv (FW F W) (FW F' W) w w' ∧ ¬ F' W := by
  have hen := Pk.enc_pos r.size
  have hen2 := Pk.enc_ten (n := r.size) (by omega)
  have hhb : Wl.hb d.S.length ≤ 65536 := by have := hs_le _ h.ok.s1; unfold Wl.hb; omega
  have hused := ho.used
  have hult : ws.h.used < Wl.hb d.S.length := by omega
  have HTx := hide (ptext_any r (by omega) w)
  have HPl : Hid (∀ V, Below w.heap.size w V → Calls Try.prog 36 #[.pointer (some ⟨W, 0, none⟩)] V fun e w' => e = .returned (.tuple #[.int .i64 (Wl.place d ws.h : Int), .string ⟨(Wl.ahead d ws.h).toArray⟩]) ∧ Below V.heap.size V w') := hide fun V hV => place_any (h.below hV) (hw.below hV) ho hd hult
  have hpl : Wl.place d ws.h ≤ 100000 := by
    have h8 : ws.h.half * Wl.hs d.S.length ≤ 1 * 512 := Nat.mul_le_mul (by have := ho.half; omega) (hs_le _ h.ok.s1)
    unfold Wl.place Wl.first; omega
  have hal : (Wl.ahead d ws.h).length ≤ 127 := by
    unfold Wl.ahead; rw [List.length_take]
    have : ws.h.used % 128 < 128 := Nat.mod_lt _ (by decide)
    omega
  have hfl := frame_len r
  have HFB : Hid ((⟨(Pk.enc r.size).toArray⟩ : ByteArray) ++ r = ⟨(Wl.frame r).toArray⟩) := hide (by
    apply ByteArray.ext; unfold Wl.frame; rw [ByteArray.data_append, List.append_toArray])
  rw [HFB.out] at HTx
  have HHA : Hid (Wl.hdA ws.h r = ⟨ws.h.num + 1, ws.h.half, ws.h.sn, ws.h.lg + (Wl.frame r).length⟩) := hide rfl
  have HX : Hid (secs (Wl.pad (Wl.ahead d ws.h ++ Wl.frame r)) (Wl.up (Wl.ahead d ws.h ++ Wl.frame r).length) = Wl.sects (Wl.ahead d ws.h ++ Wl.frame r)) := hide rfl
  have HPL := hide (pad_len (Wl.ahead d ws.h ++ Wl.frame r))
  obtain ⟨⟨num, half, sn, lg⟩, rc, gone⟩ := ws
  have hrc := ho.rc
  have hsn := ho.sn
  have hhf := ho.half
  have hu2 : sn + lg ≤ Wl.hb d.S.length := hused
  simp only at *
  generalize Wl.hdA ⟨num, half, sn, lg⟩ r = HA at *
  have hha := HHA.out
  subst hha
  generalize Wl.place d ⟨num, half, sn, lg⟩ = PL at *
  generalize Wl.ahead d ⟨num, half, sn, lg⟩ = AH at *
  generalize Wl.frame r = FR at *
  have hN : AH.length + FR.length ≤ 100000 := by omega
  have hFR : FR.length ≤ 2100 := by omega
  have hFR1 : 1 ≤ FR.length := by omega
  have hlg : lg ≤ 65536 := by omega
  have hsn2 : sn ≤ 65536 := by omega
  obtain ⟨M, hM⟩ : ∃ M, Wl.up (AH ++ FR).length = M := ⟨_, rfl⟩
  have hM2 : AH.length + FR.length ≤ M * 128 := by rw [← hM, List.length_append]; unfold Wl.up; omega
  have hM3 : M ≤ 500 := by rw [← hM, List.length_append]; unfold Wl.up; omega
  have HSF := hide (fun V => sectorsFor_any (AH.length + FR.length) hN V)
  rw [← List.length_append, hM] at HSF
  rw [hM] at HX HPL
  have zA : (⟨AH.toArray⟩ : ByteArray).size = AH.length := by show AH.toArray.size = _; simp
  have zF : (⟨FR.toArray⟩ : ByteArray).size = FR.length := by show FR.toArray.size = _; simp
  have HS1 := hide (splice_first (M * 128) AH)
  have HS2 := hide (splice_second (M * 128) AH FR hM2)
  have HPd : Hid ((AH ++ FR) ++ List.replicate (M * 128 - (AH ++ FR).length) 0 = Wl.pad (AH ++ FR)) := hide (by rw [← hM]; rfl)
  rw [HPd.out] at HS2
  have HD := hide h
  have HW := hide hw
  have hWl := lt_of_block hw
  have hw0 := hw
  have HK : Hid (num + 1 < 18446744073709551616 ∧ half < 256 ∧ sn < 4294967296 ∧ lg + FR.length < 4294967296 ∧ (d.R.length + M + 1) * 24 ≤ 140737488355328 ∧ M ≤ 1000) := hide ⟨by omega, by omega, by omega, by omega, Nat.le_trans (Nat.mul_le_mul_right 24 (by omega)) hR, by omega⟩
  clear h hw ho HFB HHA hM HPd hhb hult hfit hused hen hen2 hu2 hd hfl
  obtain ⟨RR, hRR⟩ : ∃ RR, Wl.layW d PL (Wl.sects (AH ++ FR)) ⟨num + 1, half, sn, lg + FR.length⟩ = RR := ⟨_, rfl⟩
  rw [hRR]
  have HRR := hide hRR
  clear hRR
  go_enter Try.func23, Try.ntmps23
  go_wp2_with fail
  refine HTx.out.mono ?_
  rintro e w1 ⟨rfl, hb1⟩
  go_wp2_with fail
  refine (HPl.out w1 hb1).mono ?_
  rintro e w2 ⟨rfl, hb2⟩
  have HB2 := hide (hb1.trans (hb2.mono hb1.size))
  clear hb1 hb2 HTx HPl
  go_wp2_with fail
  have hadd : (AH.length : Int) + (FR.length : Int) = (((AH ++ FR).length : Nat) : Int) := by rw [List.length_append]; omega
  rw [hadd]
  refine (HSF.out w2).mono ?_
  rintro e w3 ⟨rfl, rfl⟩
  obtain ⟨g, hg⟩ : ∃ g, w2.heap.size = g := ⟨_, rfl⟩
  have h2s := HB2.out.size
  have hgW : g ≠ W := by omega
  have hgs : w.heap.size ≤ g := by omega
  have HA0 : Hid ((w2.alloc (.cells (bc (List.replicate (M * 128) 0)).toArray 5)).heap[g]? = some (.cells (bc (List.replicate (M * 128) 0)).toArray 5 (0, 0))) := hide (by rw [← hg]; exact heap_alloc_new w2 _)
  have hcp1 := D.run_copy_str (P := Try.prog) _ 59 9 3 5 g 0 (M * 128) (M * 128) ⟨AH.toArray⟩ _ 5 Try.underlying59 D.Try.infoU HA0.out (by rw [zA]; omega) (by rw [zA, List.size_toArray, bc_len, List.length_replicate]; omega)
  rw [show (bc (List.replicate (M * 128) 0)).toArray.toList = bc (List.replicate (M * 128) 0) by simp, sc_bc, HS1.out, zA] at hcp1
  have HA1 := hide (setRow_at HA0.out (bc (AH ++ List.replicate (M * 128 - AH.length) 0)).toArray)
  have hcp2 := D.run_copy_str (P := Try.prog) _ 59 9 3 5 g AH.length (M * 128 - AH.length) (M * 128 - AH.length) ⟨FR.toArray⟩ _ 5 Try.underlying59 D.Try.infoU HA1.out (by rw [zF]; omega) (by rw [zF, List.size_toArray, bc_len, List.length_append, List.length_replicate]; omega)
  rw [show (bc (AH ++ List.replicate (M * 128 - AH.length) 0)).toArray.toList = bc (AH ++ List.replicate (M * 128 - AH.length) 0) by simp, sc_bc, HS2.out, zF] at hcp2
  have HA2 := hide (setRow_at HA1.out (bc (Wl.pad (AH ++ FR))).toArray)
  have HB5 : Hid (Below w.heap.size w ((((w2.alloc (.cells (bc (List.replicate (M * 128) 0)).toArray 5)).setRow g (bc (AH ++ List.replicate (M * 128 - AH.length) 0)).toArray).setRow g (bc (Wl.pad (AH ++ FR))).toArray))) := hide (below_setRow (below_setRow (HB2.out.alloc h2s _) (by omega) _) (by omega) _)
  have HWm := hide (hw0.below HB5.out)
  have hAm : (AH.length : Int) < ((M * 128 : Nat) : Int) := by omega
  have hAn : AH.length < M * 128 := by omega
  have hAn2 : AH.length ≠ M * 128 := by omega
  rw [hg]
  generalize (((w2.alloc (.cells (bc (List.replicate (M * 128) 0)).toArray 5)).setRow g (bc (AH ++ List.replicate (M * 128 - AH.length) 0)).toArray).setRow g (bc (Wl.pad (AH ++ FR))).toArray) = w5 at *
  generalize ((w2.alloc (.cells (bc (List.replicate (M * 128) 0)).toArray 5)).setRow g (bc (AH ++ List.replicate (M * 128 - AH.length) 0)).toArray) = w4 at *
  generalize (w2.alloc (.cells (bc (List.replicate (M * 128) 0)).toArray 5)) = w3 at *
  generalize (⟨AH.toArray⟩ : ByteArray) = AB at *
  generalize (⟨FR.toArray⟩ : ByteArray) = FB at *
  obtain ⟨c0, c1, c2, c3, c4, c5, c6, cz⟩ := wm_cells HWm.out
  simp only at c0 c1 c2 c3 c4 c5 c6
  have HFl : Hid (FR.length ≤ 2100 ∧ AH.length ≤ 127 ∧ AH.length + FR.length ≤ M * 128 ∧ M ≤ 500) := hide ⟨hFR, hal, hM2, hM3⟩
  have HPL2 : Hid ((Wl.pad (AH ++ FR)).length = M * 128) := HPL
  have HHl : Hid ((AH ++ FR).length = AH.length + FR.length) := hide List.length_append
  generalize hLS : (AH ++ FR).length = LS at *
  generalize hLA : AH.length = LA at *
  generalize hLF : FR.length = LF at *
  have HLF := hide hLF
  have hlf : LF ≤ 2100 := HFl.out.1
  generalize hQ : M * 128 = Q at *
  have hQ2 : Q ≤ 64000 := by have := HFl.out; omega
  have HQ := hide hQ
  clear HS1 HS2 HA0 HA1 HSF hadd hM2 hM3 hal hN hLS hLA hLF hQ HPL HHl hg hFR1 hFR
  go_wp2_with fail
  have e1 : (num : Int) + 1 = ((num + 1 : Nat) : Int) := by simp
  have e2 : (lg : Int) + (LF : Int) = ((lg + LF : Nat) : Int) := by simp
  have e3 : (rc : Int) + 1 = ((rc + 1 : Nat) : Int) := by simp
  have HW6 := hide (wm_set3 HWm.out (num + 1) (lg + LF) (rc + 1))
  have HB6 : Hid (∀ k, k < w.heap.size → k ≠ W → (((w5.setCell ⟨W, 1, none⟩ (.int .u64 ((num + 1 : Nat) : Int))).setCell ⟨W, 4, none⟩ (.int .i64 ((lg + LF : Nat) : Int))).setCell ⟨W, 5, none⟩ (.int .i64 ((rc + 1 : Nat) : Int))).heap[k]? = w.heap[k]?) := hide fun k hk hn => (far3 hn _ _ _).trans (HB5.out.block k hk)
  have HG6 : Hid (Bf (((w5.setCell ⟨W, 1, none⟩ (.int .u64 ((num + 1 : Nat) : Int))).setCell ⟨W, 4, none⟩ (.int .i64 ((lg + LF : Nat) : Int))).setCell ⟨W, 5, none⟩ (.int .i64 ((rc + 1 : Nat) : Int))) g (Wl.pad (AH ++ FR))) := hide ((far3 hgW _ _ _).trans HA2.out)
  have HZ6 : Hid (w.heap.size ≤ (((w5.setCell ⟨W, 1, none⟩ (.int .u64 ((num + 1 : Nat) : Int))).setCell ⟨W, 4, none⟩ (.int .i64 ((lg + LF : Nat) : Int))).setCell ⟨W, 5, none⟩ (.int .i64 ((rc + 1 : Nat) : Int))).heap.size ∧ (((w5.setCell ⟨W, 1, none⟩ (.int .u64 ((num + 1 : Nat) : Int))).setCell ⟨W, 4, none⟩ (.int .i64 ((lg + LF : Nat) : Int))).setCell ⟨W, 5, none⟩ (.int .i64 ((rc + 1 : Nat) : Int))).os = w.os ∧ (((w5.setCell ⟨W, 1, none⟩ (.int .u64 ((num + 1 : Nat) : Int))).setCell ⟨W, 4, none⟩ (.int .i64 ((lg + LF : Nat) : Int))).setCell ⟨W, 5, none⟩ (.int .i64 ((rc + 1 : Nat) : Int))).tape = w.tape ∧ (((w5.setCell ⟨W, 1, none⟩ (.int .u64 ((num + 1 : Nat) : Int))).setCell ⟨W, 4, none⟩ (.int .i64 ((lg + LF : Nat) : Int))).setCell ⟨W, 5, none⟩ (.int .i64 ((rc + 1 : Nat) : Int))).output = w.output) := hide ⟨by rw [size3]; exact HB5.out.size, HB5.out.os, HB5.out.tape, HB5.out.output⟩
  rw [e1, e2, e3]
  generalize (((w5.setCell ⟨W, 1, none⟩ (.int .u64 ((num + 1 : Nat) : Int))).setCell ⟨W, 4, none⟩ (.int .i64 ((lg + LF : Nat) : Int))).setCell ⟨W, 5, none⟩ (.int .i64 ((rc + 1 : Nat) : Int))) = w6 at *
  have HFg : Hid (¬ F g) := hide fun hk => absurd (HD.out.ftlt g hk).2 (Nat.not_lt.mpr hgs)
  rw [← HQ.out]
  refine (lay_any (base := base) (d := d) (F := F) (b := b) (ws := ⟨⟨num + 1, half, sn, lg + LF⟩, rc + 1, gone⟩) (l := Wl.pad (AH ++ FR)) (HD.out.keep fun k hk => HB6.out k (HD.out.ftlt k hk).2 (fun e => hFW (e ▸ hk))) HW6.out hFW HK.out.1 HK.out.2.1 HK.out.2.2.1 HK.out.2.2.2.1 (by rw [HPL2.out]; exact HQ.out.symm) HG6.out HFg.out HK.out.2.2.2.2.2 hpl HK.out.2.2.2.2.1).mono ?_
  rintro e w9 ⟨rfl, F', hD', hM'⟩
  rw [HX.out, HRR.out] at hD' ⊢
  have HD' := hide hD'
  have HW9 : Hid (Wm w9 W b ⟨⟨num + 1, half, sn, lg + LF⟩, rc + 1, gone⟩) := hide ((hM'.block W (lt_of_block HW6.out) hFW).trans HW6.out)
  have HM' := hide (mvW HB6.out HZ6.out.2.1 HZ6.out.2.2.1 HZ6.out.2.2.2 HZ6.out.1 hM')
  have HnF : Hid (¬ F' W) := hide fun k => by rcases hM'.foot W k with h5 | h5; exact hFW h5; exact absurd (lt_of_block HW6.out) (by omega)
  clear hD' hM' HW6 HB6 HG6 HZ6 hcp1 hcp2 hAm hAn hAn2 c0 c1 c2 c3 c4 c5 c6 cz e1 e2 e3 hlf hQ2 zA zF h2s
  rw [HQ.out]
  set_option maxRecDepth 40000 in
  go_wp2_with fail
  go_ret
  exact ⟨rfl, by rw [HLF.out]; exact HW9.out, F', HD'.out, HM'.out, HnF.out⟩
end Go.Proofs.Yteiickpokabmoab
