import Derived.Test.YtojghjgbnnkldaaMgAN
import Derived.Defers

section
namespace Go.Proofs.Ytojghjgbnnkldaa
open Go.RowKit Go.Shelf
open Wl (Hd WS Log)

theorem mvW {w w5 w9 : World} {F F' : Nat → Prop} {W : Nat} (h5 : ∀ k, k < w.heap.size → k ≠ W → w5.heap[k]? = w.heap[k]?) (ho : w5.os = w.os) (ht : w5.tape = w.tape) (hu : w5.output = w.output) (hs : w.heap.size ≤ w5.heap.size) (hM : D.Mv F F' w5 w9) : D.Mv (FW F W) (FW F' W) w w9 :=
  ⟨hM.os.trans ho, hM.tape.trans ht, hM.output.trans hu, Nat.le_trans hs hM.size, fun k hk hn => (hM.block k (Nat.lt_of_lt_of_le hk hs) (fun h => hn (.inl h))).trans (h5 k hk (fun h => hn (.inr h))), fun k hk => by
    rcases hk with hk | hk
    · rcases hM.foot k hk with h | h
      · exact .inl (.inl h)
      · exact .inr (Nat.le_trans hs h)
    · exact .inl (.inr hk)⟩
set_option maxHeartbeats 2000000 in
set_option maxRecDepth 8000 in
theorem layRecord_any {base : Nat} {w : World} {b W : Nat} {F : Nat → Prop} {d : D.DS} {ws : WS} (h : D.Dk base w b F d) (hw : Wm w W b ws) (hFW : ¬ F W) (ho : Wl.Ok d ws) (hd : d.dead = false) (r : ByteArray) (hr2 : r.size ≤ 2048)
    (hfit : (Pk.enc r.size).length + r.size ≤ Wl.hb d.S.length - ws.h.used) (hR : (d.R.length + 600) * 24 ≤ 140737488355328) (hnum : ws.h.num < 1099511627776) :
    Calls Try.prog 39 #[.pointer (some ⟨W, 0, none⟩), .string r] w fun e w' => e = .returned (.int .i64 (Wl.layW d (Wl.place d ws.h) (Wl.sects (Wl.ahead d ws.h ++ Wl.frame r)) (Wl.hdA ws.h r)).1) ∧ Wm w' W b ⟨Wl.hdA ws.h r, ws.rc + 1, ws.gone⟩ ∧ ∃ F', D.Dk base w' b F' (Wl.layW d (Wl.place d ws.h) (Wl.sects (Wl.ahead d ws.h ++ Wl.frame r)) (Wl.hdA ws.h r)).2 ∧ D.Mv (FW F W) (FW F' W) w w' ∧ ¬ F' W := by
  have hen := Pk.enc_pos r.size
  have hen2 := Pk.enc_ten (n := r.size) (by omega)
  have hhb : Wl.hb d.S.length ≤ 65536 := by have := hs_le _ h.ok.s1; unfold Wl.hb; omega
  have hused := ho.used
  have hult : ws.h.used < Wl.hb d.S.length := by omega
  have HTx := hide (ptext_any r (by omega) w)
  have HPl : Hid (∀ V, Below w.heap.size w V → Calls Try.prog 59 #[.pointer (some ⟨W, 0, none⟩)] V fun e w' => e = .returned (.tuple #[.int .i64 (Wl.place d ws.h : Int), .string ⟨(Wl.ahead d ws.h).toArray⟩]) ∧ Below V.heap.size V w') := hide fun V hV => place_any (h.below hV) (hw.below hV) ho hd hult
  have hpl : Wl.place d ws.h ≤ 100000 := by
    have h8 : ws.h.half * Wl.hs d.S.length ≤ 1 * 512 := Nat.mul_le_mul (by have := ho.half; omega) (hs_le _ h.ok.s1)
    unfold Wl.place Wl.first; omega
  have hal : (Wl.ahead d ws.h).length ≤ 127 := by
    unfold Wl.ahead; rw [List.length_take]
    have : ws.h.used % 128 < 128 := Nat.mod_lt _ (by decide)
    omega
  have hfl := frame_len r
  have HFB : Hid ((⟨(Pk.enc r.size).toArray⟩ : ByteArray) ++ r = ⟨(Wl.frame r).toArray⟩) := hide (by
    apply ByteArray.ext; unfold Wl.frame; rw [ByteArray.data_append, List.append_toArray])
  rw [HFB.out] at HTx
  have HHA : Hid (Wl.hdA ws.h r = ⟨ws.h.num + 1, ws.h.half, ws.h.sn, ws.h.lg + (Wl.frame r).length⟩) := hide rfl
  have HX : Hid (secs (Wl.pad (Wl.ahead d ws.h ++ Wl.frame r)) (Wl.up (Wl.ahead d ws.h ++ Wl.frame r).length) = Wl.sects (Wl.ahead d ws.h ++ Wl.frame r)) := hide rfl
  have HPL := hide (pad_len (Wl.ahead d ws.h ++ Wl.frame r))
  obtain ⟨⟨num, half, sn, lg⟩, rc, gone⟩ := ws
  have hrc := ho.rc
  have hsn := ho.sn
  have hhf := ho.half
  have hu2 : sn + lg ≤ Wl.hb d.S.length := hused
  simp only at *
  generalize Wl.hdA ⟨num, half, sn, lg⟩ r = HA at *
  have hha := HHA.out
  subst hha
  generalize Wl.place d ⟨num, half, sn, lg⟩ = PL at *
  generalize Wl.ahead d ⟨num, half, sn, lg⟩ = AH at *
  generalize Wl.frame r = FR at *
  have hN : AH.length + FR.length ≤ 100000 := by omega
  have hFR : FR.length ≤ 2100 := by omega
  have hFR1 : 1 ≤ FR.length := by omega
  have hlg : lg ≤ 65536 := by omega
  have hsn2 : sn ≤ 65536 := by omega
  obtain ⟨M, hM⟩ : ∃ M, Wl.up (AH ++ FR).length = M := ⟨_, rfl⟩
  have hM2 : AH.length + FR.length ≤ M * 128 := by rw [← hM, List.length_append]; unfold Wl.up; omega
  have hM3 : M ≤ 500 := by rw [← hM, List.length_append]; unfold Wl.up; omega
  have HSF := hide (fun V => sectorsFor_any (AH.length + FR.length) hN V)
  rw [← List.length_append, hM] at HSF
  rw [hM] at HX HPL
  have zA : (⟨AH.toArray⟩ : ByteArray).size = AH.length := by show AH.toArray.size = _; simp
  have zF : (⟨FR.toArray⟩ : ByteArray).size = FR.length := by show FR.toArray.size = _; simp
  have HS1 := hide (splice_first (M * 128) AH)
  have HS2 := hide (splice_second (M * 128) AH FR hM2)
  have HPd : Hid ((AH ++ FR) ++ List.replicate (M * 128 - (AH ++ FR).length) 0 = Wl.pad (AH ++ FR)) := hide (by rw [← hM]; rfl)
  rw [HPd.out] at HS2
  have HD := hide h
  have HW := hide hw
  have hWl := lt_of_block hw
  have hw0 := hw
  have HK : Hid (num + 1 < 18446744073709551616 ∧ half < 256 ∧ sn < 4294967296 ∧ lg + FR.length < 4294967296 ∧ (d.R.length + M + 1) * 24 ≤ 140737488355328 ∧ M ≤ 1000) := hide ⟨by omega, by omega, by omega, by omega, Nat.le_trans (Nat.mul_le_mul_right 24 (by omega)) hR, by omega⟩
  clear h hw ho HFB HHA hM HPd hhb hult hfit hused hen hen2 hu2 hd hfl
  obtain ⟨RR, hRR⟩ : ∃ RR, Wl.layW d PL (Wl.sects (AH ++ FR)) ⟨num + 1, half, sn, lg + FR.length⟩ = RR := ⟨_, rfl⟩
  rw [hRR]
  have HRR := hide hRR
  clear hRR
  go_enter Try.func39, Try.ntmps39
  go_wp2_with fail
  refine HTx.out.mono ?_
  rintro e w1 ⟨rfl, hb1⟩
  go_wp2_with fail
  refine (HPl.out w1 hb1).mono ?_
  rintro e w2 ⟨rfl, hb2⟩
  have HB2 := hide (hb1.trans (hb2.mono hb1.size))
  clear hb1 hb2 HTx HPl
  go_wp2_with fail
  have hadd : (AH.length : Int) + (FR.length : Int) = (((AH ++ FR).length : Nat) : Int) := by rw [List.length_append]; omega
  rw [hadd]
  refine (HSF.out w2).mono ?_
  rintro e w3 ⟨rfl, rfl⟩
  obtain ⟨g, hg⟩ : ∃ g, w2.heap.size = g := ⟨_, rfl⟩
  have h2s := HB2.out.size
  have hgW : g ≠ W := by omega
  have hgs : w.heap.size ≤ g := by omega
  have HA0 : Hid ((w2.alloc (.cells (bc (List.replicate (M * 128) 0)).toArray 5)).heap[g]? = some (.cells (bc (List.replicate (M * 128) 0)).toArray 5 (0, 0))) := hide (by rw [← hg]; exact heap_alloc_new w2 _)
  have hcp1 := D.run_copy_str (P := Try.prog) _ 45 9 3 5 g 0 (M * 128) (M * 128) ⟨AH.toArray⟩ _ 5 Try.underlying45 D.Try.infoU HA0.out (by rw [zA]; omega) (by rw [zA, List.size_toArray, bc_len, List.length_replicate]; omega)
  rw [show (bc (List.replicate (M * 128) 0)).toArray.toList = bc (List.replicate (M * 128) 0) by simp, sc_bc, HS1.out, zA] at hcp1
  have HA1 := hide (setRow_at HA0.out (bc (AH ++ List.replicate (M * 128 - AH.length) 0)).toArray)
  have hcp2 := D.run_copy_str (P := Try.prog) _ 45 9 3 5 g AH.length (M * 128 - AH.length) (M * 128 - AH.length) ⟨FR.toArray⟩ _ 5 Try.underlying45 D.Try.infoU HA1.out (by rw [zF]; omega) (by rw [zF, List.size_toArray, bc_len, List.length_append, List.length_replicate]; omega)
  rw [show (bc (AH ++ List.replicate (M * 128 - AH.length) 0)).toArray.toList = bc (AH ++ List.replicate (M * 128 - AH.length) 0) by simp, sc_bc, HS2.out, zF] at hcp2
  have HA2 := hide (setRow_at HA1.out (bc (Wl.pad (AH ++ FR))).toArray)
  have HB5 : Hid (Below w.heap.size w ((((w2.alloc (.cells (bc (List.replicate (M * 128) 0)).toArray 5)).setRow g (bc (AH ++ List.replicate (M * 128 - AH.length) 0)).toArray).setRow g (bc (Wl.pad (AH ++ FR))).toArray))) := hide (below_setRow (below_setRow (HB2.out.alloc h2s _) (by omega) _) (by omega) _)
  have HWm := hide (hw0.below HB5.out)
  have hAm : (AH.length : Int) < ((M * 128 : Nat) : Int) := by omega
  have hAn : AH.length < M * 128 := by omega
  have hAn2 : AH.length ≠ M * 128 := by omega
  rw [hg]
  generalize (((w2.alloc (.cells (bc (List.replicate (M * 128) 0)).toArray 5)).setRow g (bc (AH ++ List.replicate (M * 128 - AH.length) 0)).toArray).setRow g (bc (Wl.pad (AH ++ FR))).toArray) = w5 at *
  generalize ((w2.alloc (.cells (bc (List.replicate (M * 128) 0)).toArray 5)).setRow g (bc (AH ++ List.replicate (M * 128 - AH.length) 0)).toArray) = w4 at *
  generalize (w2.alloc (.cells (bc (List.replicate (M * 128) 0)).toArray 5)) = w3 at *
  generalize (⟨AH.toArray⟩ : ByteArray) = AB at *
  generalize (⟨FR.toArray⟩ : ByteArray) = FB at *
  obtain ⟨c0, c1, c2, c3, c4, c5, c6, cz⟩ := wm_cells HWm.out
  simp only at c0 c1 c2 c3 c4 c5 c6
  have HFl : Hid (FR.length ≤ 2100 ∧ AH.length ≤ 127 ∧ AH.length + FR.length ≤ M * 128 ∧ M ≤ 500) := hide ⟨hFR, hal, hM2, hM3⟩
  have HPL2 : Hid ((Wl.pad (AH ++ FR)).length = M * 128) := HPL
  have HHl : Hid ((AH ++ FR).length = AH.length + FR.length) := hide List.length_append
  generalize hLS : (AH ++ FR).length = LS at *
  generalize hLA : AH.length = LA at *
  generalize hLF : FR.length = LF at *
  have HLF := hide hLF
  have hlf : LF ≤ 2100 := HFl.out.1
  generalize hQ : M * 128 = Q at *
  have hQ2 : Q ≤ 64000 := by have := HFl.out; omega
  have HQ := hide hQ
  clear HS1 HS2 HA0 HA1 HSF hadd hM2 hM3 hal hN hLS hLA hLF hQ HPL HHl hg hFR1 hFR
  go_wp2_with fail
  have e1 : (num : Int) + 1 = ((num + 1 : Nat) : Int) := by simp
  have e2 : (lg : Int) + (LF : Int) = ((lg + LF : Nat) : Int) := by simp
  have e3 : (rc : Int) + 1 = ((rc + 1 : Nat) : Int) := by simp
  have HW6 := hide (wm_set3 HWm.out (num + 1) (lg + LF) (rc + 1))
  have HB6 : Hid (∀ k, k < w.heap.size → k ≠ W → (((w5.setCell ⟨W, 1, none⟩ (.int .u64 ((num + 1 : Nat) : Int))).setCell ⟨W, 4, none⟩ (.int .i64 ((lg + LF : Nat) : Int))).setCell ⟨W, 5, none⟩ (.int .i64 ((rc + 1 : Nat) : Int))).heap[k]? = w.heap[k]?) := hide fun k hk hn => (far3 hn _ _ _).trans (HB5.out.block k hk)
  have HG6 : Hid (Bf (((w5.setCell ⟨W, 1, none⟩ (.int .u64 ((num + 1 : Nat) : Int))).setCell ⟨W, 4, none⟩ (.int .i64 ((lg + LF : Nat) : Int))).setCell ⟨W, 5, none⟩ (.int .i64 ((rc + 1 : Nat) : Int))) g (Wl.pad (AH ++ FR))) := hide ((far3 hgW _ _ _).trans HA2.out)
  have HZ6 : Hid (w.heap.size ≤ (((w5.setCell ⟨W, 1, none⟩ (.int .u64 ((num + 1 : Nat) : Int))).setCell ⟨W, 4, none⟩ (.int .i64 ((lg + LF : Nat) : Int))).setCell ⟨W, 5, none⟩ (.int .i64 ((rc + 1 : Nat) : Int))).heap.size ∧ (((w5.setCell ⟨W, 1, none⟩ (.int .u64 ((num + 1 : Nat) : Int))).setCell ⟨W, 4, none⟩ (.int .i64 ((lg + LF : Nat) : Int))).setCell ⟨W, 5, none⟩ (.int .i64 ((rc + 1 : Nat) : Int))).os = w.os ∧ (((w5.setCell ⟨W, 1, none⟩ (.int .u64 ((num + 1 : Nat) : Int))).setCell ⟨W, 4, none⟩ (.int .i64 ((lg + LF : Nat) : Int))).setCell ⟨W, 5, none⟩ (.int .i64 ((rc + 1 : Nat) : Int))).tape = w.tape ∧ (((w5.setCell ⟨W, 1, none⟩ (.int .u64 ((num + 1 : Nat) : Int))).setCell ⟨W, 4, none⟩ (.int .i64 ((lg + LF : Nat) : Int))).setCell ⟨W, 5, none⟩ (.int .i64 ((rc + 1 : Nat) : Int))).output = w.output) := hide ⟨by rw [size3]; exact HB5.out.size, HB5.out.os, HB5.out.tape, HB5.out.output⟩
  rw [e1, e2, e3]
  generalize (((w5.setCell ⟨W, 1, none⟩ (.int .u64 ((num + 1 : Nat) : Int))).setCell ⟨W, 4, none⟩ (.int .i64 ((lg + LF : Nat) : Int))).setCell ⟨W, 5, none⟩ (.int .i64 ((rc + 1 : Nat) : Int))) = w6 at *
  have HFg : Hid (¬ F g) := hide fun hk => absurd (HD.out.ftlt g hk).2 (Nat.not_lt.mpr hgs)
  rw [← HQ.out]
  refine (lay_any (base := base) (d := d) (F := F) (b := b) (ws := ⟨⟨num + 1, half, sn, lg + LF⟩, rc + 1, gone⟩) (l := Wl.pad (AH ++ FR)) (HD.out.keep fun k hk => HB6.out k (HD.out.ftlt k hk).2 (fun e => hFW (e ▸ hk))) HW6.out hFW HK.out.1 HK.out.2.1 HK.out.2.2.1 HK.out.2.2.2.1 (by rw [HPL2.out]; exact HQ.out.symm) HG6.out HFg.out HK.out.2.2.2.2.2 hpl HK.out.2.2.2.2.1).mono ?_
  rintro e w9 ⟨rfl, F', hD', hM'⟩
  rw [HX.out, HRR.out] at hD' ⊢
  have HD' := hide hD'
  have HW9 : Hid (Wm w9 W b ⟨⟨num + 1, half, sn, lg + LF⟩, rc + 1, gone⟩) := hide ((hM'.block W (lt_of_block HW6.out) hFW).trans HW6.out)
  have HM' := hide (mvW HB6.out HZ6.out.2.1 HZ6.out.2.2.1 HZ6.out.2.2.2 HZ6.out.1 hM')
  have HnF : Hid (¬ F' W) := hide fun k => by rcases hM'.foot W k with h5 | h5; exact hFW h5; exact absurd (lt_of_block HW6.out) (by omega)
  clear hD' hM' HW6 HB6 HG6 HZ6 hcp1 hcp2 hAm hAn hAn2 c0 c1 c2 c3 c4 c5 c6 cz e1 e2 e3 hlf hQ2 zA zF h2s
  rw [HQ.out]
  set_option maxRecDepth 40000 in
  go_wp2_with fail
  go_ret
  exact ⟨rfl, by rw [HLF.out]; exact HW9.out, F', HD'.out, HM'.out, HnF.out⟩
end Go.Proofs.Ytojghjgbnnkldaa
end

section
namespace Go.Proofs.Ytojghjgbnnkldaa
open Go.RowKit Go.Shelf
open Wl (Hd WS Log)

/-- only one block is turned -/
structure Onl (W : Nat) (w w' : World) : Prop where
  os : w'.os = w.os
  tape : w'.tape = w.tape
  output : w'.output = w.output
  size : w'.heap.size = w.heap.size
  block : ∀ j, j ≠ W → w'.heap[j]? = w.heap[j]?
theorem Onl.refl (W : Nat) (w : World) : Onl W w w := ⟨rfl, rfl, rfl, rfl, fun _ _ => rfl⟩
theorem Onl.set {W : Nat} {w w' : World} (h : Onl W w w') (k : Nat) (v : Value) : Onl W w (w'.setCell ⟨W, k, none⟩ v) :=
  ⟨h.os, h.tape, h.output, by rw [D.setCell_size]; exact h.size, fun j hj => (Below.heap_setCell _ _ _ _ hj).trans (h.block j hj)⟩
theorem onl7 (W : Nat) (w : World) (a b c d e f g : Value) : Onl W w (((((((w.setCell ⟨W, 0, none⟩ a).setCell ⟨W, 1, none⟩ b).setCell ⟨W, 2, none⟩ c).setCell ⟨W, 3, none⟩ d).setCell ⟨W, 4, none⟩ e).setCell ⟨W, 5, none⟩ f).setCell ⟨W, 6, none⟩ g) :=
  (((((((Onl.refl W w).set _ _).set _ _).set _ _).set _ _).set _ _).set _ _).set _ _
theorem wm7 {w : World} {W b : Nat} {ws ws1 : WS} (h : Wm w W b ws1) : Wm (((((((w.setCell ⟨W, 0, none⟩ (.pointer (some ⟨b, 0, none⟩))).setCell ⟨W, 1, none⟩ (.int .u64 (ws.h.num : Int))).setCell ⟨W, 2, none⟩ (.int .u8 (ws.h.half : Int))).setCell ⟨W, 3, none⟩ (.int .i64 (ws.h.sn : Int))).setCell ⟨W, 4, none⟩ (.int .i64 (ws.h.lg : Int))).setCell ⟨W, 5, none⟩ (.int .i64 (ws.rc : Int))).setCell ⟨W, 6, none⟩ (.bool ws.gone)) W b ws := by
  unfold Wm
  rw [setCell_self (setCell_self (setCell_self (setCell_self (setCell_self (setCell_self (setCell_self h _) _) _) _) _) _) _]
  rfl
theorem wm_gone {w : World} {W b : Nat} {ws : WS} (h : Wm w W b ws) : Wm (w.setCell ⟨W, 6, none⟩ (.bool true)) W b { ws with gone := true } := by
  unfold Wm
  rw [setCell_self h _]
  rfl
def wsAfter (k : Int) (ws ws1 : WS) : WS := if k = 0 then ws1 else if k = 2 then { ws with gone := true } else ws
set_option maxHeartbeats 1000000 in
set_option maxRecDepth 8000 in
theorem powered1_any {w : World} {W b X0 X1 X2 : Nat} {k : Int} {ws ws1 : WS} (hE : w.cell? ⟨X1, 0, none⟩ = some (.int .i64 k)) (hB : Wm w X2 b ws) (hX : w.cell? ⟨X0, 0, none⟩ = some (.pointer (some ⟨W, 0, none⟩))) (hW : Wm w W b ws1) (n0 : X0 ≠ W) (n1 : X1 ≠ W) (_n2 : X2 ≠ W) :
    CallsD Try.prog 52 #[.pointer (some ⟨X1, 0, none⟩), .pointer (some ⟨X2, 0, none⟩), .pointer (some ⟨X0, 0, none⟩)] .returning w fun e u' w' => u' = .returning ∧ (e = .returned (.tuple #[]) ∧ Wm w' W b (wsAfter k ws ws1) ∧ Onl W w w') := by
  have HW := hide hW
  have hWl := lt_of_block hW
  have hBl := lt_of_block hB
  obtain ⟨b0, b1, b2, b3, b4, b5, b6, bz⟩ := wm_cells hB
  obtain ⟨c0, c1, c2, c3, c4, c5, c6, cz⟩ := wm_cells hW
  have n0' : W ≠ X0 := Ne.symm n0
  have n1' : W ≠ X1 := Ne.symm n1
  by_cases hk : k = 0
  · subst hk
    have HA : Hid (wsAfter 0 ws ws1 = ws1) := hide (if_pos rfl)
    generalize wsAfter 0 ws ws1 = WA at *
    clear hW hB b0 b1 b2 b3 b4 b5 b6 c0 c1 c2 c3 c4 c5 c6
    go_enter_d Try.func52, Try.ntmps52
    go_wp2_with fail
    go_end0
    exact ⟨rfl, by rw [HA.out]; exact HW.out, Onl.refl _ _⟩
  have HS := hide (wm7 (ws := ws) hW)
  by_cases hk2 : k = 2
  · subst hk2
    have HA : Hid (wsAfter 2 ws ws1 = { ws with gone := true }) := hide (by unfold wsAfter; rw [if_neg (by decide), if_pos rfl])
    generalize wsAfter 2 ws ws1 = WA at *
    clear hW hB hk
    go_enter_d Try.func52, Try.ntmps52
    go_wp2_with fail
    go_end0
    exact ⟨rfl, by rw [HA.out]; exact wm_gone HS.out, (onl7 _ _ _ _ _ _ _ _ _).set _ _⟩
  · have HA : Hid (wsAfter k ws ws1 = ws) := hide (by unfold wsAfter; rw [if_neg hk, if_neg hk2])
    have bx : (k != 0) = true := by simpa using hk
    have bx2 : (k == 2) = false := by simpa using hk2
    generalize wsAfter k ws ws1 = WA at *
    clear hW hB hk hk2
    go_enter_d Try.func52, Try.ntmps52
    go_wp2_with fail
    go_end0
    exact ⟨rfl, by rw [HA.out]; exact HS.out, onl7 _ _ _ _ _ _ _ _ _⟩
end Go.Proofs.Ytojghjgbnnkldaa
end

section
namespace Go.Proofs.Ytojghjgbnnkldaa
open Go.RowKit Go.Shelf
open Wl (Hd WS Log)

theorem three {w : World} {a b c : Obj} : ((w.alloc a).alloc b).alloc c = ((w.alloc a).alloc b).alloc c ∧ (((w.alloc a).alloc b).alloc c).heap[w.heap.size]? = some a ∧ (((w.alloc a).alloc b).alloc c).heap[w.heap.size + 1]? = some b ∧ (((w.alloc a).alloc b).alloc c).heap[w.heap.size + 2]? = some c := by
  refine ⟨rfl, ?_, ?_, ?_⟩
  · rw [Below.heap_alloc _ _ _ (by simp; omega), Below.heap_alloc _ _ _ (by simp)]; exact heap_alloc_new w a
  · rw [Below.heap_alloc _ _ _ (by simp)]; have := heap_alloc_new (w.alloc a) b; rw [World.size_alloc] at this; exact this
  · have := heap_alloc_new ((w.alloc a).alloc b) c; rw [World.size_alloc, World.size_alloc] at this; exact this
theorem bel3 (w : World) (a b c : Obj) : Below w.heap.size w (((w.alloc a).alloc b).alloc c) := ((below_alloc w a).alloc (by simp) b).alloc (by simp; omega) c
theorem mv_onl {w w2 w3 : World} {F F' : Nat → Prop} {W : Nat} (hM : D.Mv (FW F W) (FW F' W) w w2) (h : Onl W w2 w3) : D.Mv (FW F W) (FW F' W) w w3 :=
  ⟨h.os.trans hM.os, h.tape.trans hM.tape, h.output.trans hM.output, by rw [h.size]; exact hM.size, fun k hk hn => (h.block k (fun e => hn (.inr e))).trans (hM.block k hk hn), hM.foot⟩
theorem mv_set {w w2 : World} {F F' : Nat → Prop} {a : Addr} {v : Value} (hM : D.Mv F F' w w2) (ha : w.heap.size ≤ a.block) : D.Mv F F' w (w2.setCell a v) :=
  ⟨hM.os, hM.tape, hM.output, by rw [D.setCell_size]; exact hM.size, fun k hk hn => (Below.heap_setCell _ _ _ _ (by omega)).trans (hM.block k hk hn), hM.foot⟩
set_option maxHeartbeats 2000000 in
set_option maxRecDepth 8000 in
theorem powered_A {base : Nat} {w : World} {b W p1 p2 : Nat} {F : Nat → Prop} {d : D.DS} {ws ws1 : WS} {r : Int × D.DS} (h : D.Dk base w b F d) (hw : Wm w W b ws) (hFW : ¬ F W)
    (HC : Hid (d.dead = false → ws.gone = false → ∀ V, Below w.heap.size w V → Calls Try.prog 38 #[.pointer (some ⟨p1, 0, none⟩), .pointer (some ⟨p2, 0, none⟩)] V fun e w' => e = .returned (.int .i64 r.1) ∧ Wm w' W b ws1 ∧ ∃ F', D.Dk base w' b F' r.2 ∧ D.Mv (FW F W) (FW F' W) V w' ∧ ¬ F' W)) :
    Calls Try.prog 33 #[.pointer (some ⟨W, 0, none⟩), .func (.func 38) #[] #[.pointer (some ⟨p1, 0, none⟩), .pointer (some ⟨p2, 0, none⟩)]] w fun e w' => e = .returned (.int .i64 (Wl.powered d ws (r.1, r.2, wsAfter r.1 ws ws1)).1) ∧ Wm w' W b (Wl.powered d ws (r.1, r.2, wsAfter r.1 ws ws1)).2.2 ∧ ∃ F', D.Dk base w' b F' (Wl.powered d ws (r.1, r.2, wsAfter r.1 ws ws1)).2.1 ∧ D.Mv (FW F W) (FW F' W) w w' ∧ ¬ F' W := by
  have hmf : ∀ (fn : Fn) (first cap : Array Value) (w : World), (Instr.makeFunc fn first cap).run Try.prog w = .ok (.func fn first cap) w := fun _ _ _ _ => rfl
  have HD := hide h
  obtain ⟨R, hR⟩ : ∃ R, Wl.powered d ws (r.1, r.2, wsAfter r.1 ws ws1) = R := ⟨_, rfl⟩
  rw [hR]
  obtain ⟨⟨num, half, sn, lg⟩, rc, gone⟩ := ws
  cases gone with
  | true =>
    have HR : Hid (R = (2, d, ⟨⟨num, half, sn, lg⟩, rc, true⟩)) := hide (by rw [← hR]; exact if_pos (.inl rfl))
    clear hR HC
    have H3 := hide (three (w := w) (a := .cells #[.pointer (some ⟨W, 0, none⟩)] 35) (b := .cells #[.int .i64 0] 25) (c := .cells #[.pointer (some ⟨b, 0, none⟩), .int .u64 (num : Int), .int .u8 (half : Int), .int .i64 (sn : Int), .int .i64 (lg : Int), .int .i64 (rc : Int), .bool true] 72)).2
    have HB1 := hide (bel3 w (.cells #[.pointer (some ⟨W, 0, none⟩)] 35) (.cells #[.int .i64 0] 25) (.cells #[.pointer (some ⟨b, 0, none⟩), .int .u64 (num : Int), .int .u8 (half : Int), .int .i64 (sn : Int), .int .i64 (lg : Int), .int .i64 (rc : Int), .bool true] 72))
    have HWm1 : Hid (Wm (((w.alloc (.cells #[.pointer (some ⟨W, 0, none⟩)] 35)).alloc (.cells #[.int .i64 0] 25)).alloc (.cells #[.pointer (some ⟨b, 0, none⟩), .int .u64 (num : Int), .int .u8 (half : Int), .int .i64 (sn : Int), .int .i64 (lg : Int), .int .i64 (rc : Int), .bool true] 72)) W b ⟨⟨num, half, sn, lg⟩, rc, true⟩) := hide (hw.below HB1.out)
    have HX2 : Hid (Wm (((w.alloc (.cells #[.pointer (some ⟨W, 0, none⟩)] 35)).alloc (.cells #[.int .i64 0] 25)).alloc (.cells #[.pointer (some ⟨b, 0, none⟩), .int .u64 (num : Int), .int .u8 (half : Int), .int .i64 (sn : Int), .int .i64 (lg : Int), .int .i64 (rc : Int), .bool true] 72)) (w.heap.size + 2) b ⟨⟨num, half, sn, lg⟩, rc, true⟩) := hide H3.out.2.2
    have HD1 := hide (h.below HB1.out)
    obtain ⟨c0, c1, c2, c3, c4, c5, c6, cz⟩ := wm_cells hw
    simp only at c0 c1 c2 c3 c4 c5 c6
    have hWl := lt_of_block hw
    have e0 : (((w.alloc (.cells #[.pointer (some ⟨W, 0, none⟩)] 35)).alloc (.cells #[.int .i64 0] 25)).alloc (.cells #[.pointer (some ⟨b, 0, none⟩), .int .u64 (num : Int), .int .u8 (half : Int), .int .i64 (sn : Int), .int .i64 (lg : Int), .int .i64 (rc : Int), .bool true] 72)).cell? ⟨w.heap.size, 0, none⟩ = some (.pointer (some ⟨W, 0, none⟩)) := by unfold World.cell?; rw [show _ = _ from H3.out.1]; rfl
    have e1 : (((w.alloc (.cells #[.pointer (some ⟨W, 0, none⟩)] 35)).alloc (.cells #[.int .i64 0] 25)).alloc (.cells #[.pointer (some ⟨b, 0, none⟩), .int .u64 (num : Int), .int .u8 (half : Int), .int .i64 (sn : Int), .int .i64 (lg : Int), .int .i64 (rc : Int), .bool true] 72)).cell? ⟨w.heap.size + 1, 0, none⟩ = some (.int .i64 0) := by unfold World.cell?; rw [show _ = _ from H3.out.2.1]; rfl
    have z1 : (((w.alloc (.cells #[.pointer (some ⟨W, 0, none⟩)] 35)).alloc (.cells #[.int .i64 0] 25)).alloc (.cells #[.pointer (some ⟨b, 0, none⟩), .int .u64 (num : Int), .int .u8 (half : Int), .int .i64 (sn : Int), .int .i64 (lg : Int), .int .i64 (rc : Int), .bool true] 72)).frozen? ⟨w.heap.size + 1, 0, none⟩ = false := by unfold World.frozen?; rw [show _ = _ from H3.out.2.1]; simp
    obtain ⟨d0, d1, d2, d3, d4, d5, d6, dz⟩ := wm_cells HWm1.out
    simp only at d0 d1 d2 d3 d4 d5 d6
    go_enter_defers Try.func33, Try.ntmps33
    go_wp2_with fail
    have H4 := hide (three (w := w) (a := .cells #[.pointer (some ⟨W, 0, none⟩)] 35) (b := .cells #[.int .i64 2] 25) (c := .cells #[.pointer (some ⟨b, 0, none⟩), .int .u64 (num : Int), .int .u8 (half : Int), .int .i64 (sn : Int), .int .i64 (lg : Int), .int .i64 (rc : Int), .bool true] 72)).2
    have HB4 := hide (bel3 w (.cells #[.pointer (some ⟨W, 0, none⟩)] 35) (.cells #[.int .i64 2] 25) (.cells #[.pointer (some ⟨b, 0, none⟩), .int .u64 (num : Int), .int .u8 (half : Int), .int .i64 (sn : Int), .int .i64 (lg : Int), .int .i64 (rc : Int), .bool true] 72))
    have hc2 : (((w.alloc (.cells #[.pointer (some ⟨W, 0, none⟩)] 35)).alloc (.cells #[.int .i64 2] 25)).alloc (.cells #[.pointer (some ⟨b, 0, none⟩), .int .u64 (num : Int), .int .u8 (half : Int), .int .i64 (sn : Int), .int .i64 (lg : Int), .int .i64 (rc : Int), .bool true] 72)).cell? ⟨w.heap.size + 1, 0, none⟩ = some (.int .i64 2) := by unfold World.cell?; rw [show _ = _ from H4.out.2.1]; rfl
    have hc0 : (((w.alloc (.cells #[.pointer (some ⟨W, 0, none⟩)] 35)).alloc (.cells #[.int .i64 2] 25)).alloc (.cells #[.pointer (some ⟨b, 0, none⟩), .int .u64 (num : Int), .int .u8 (half : Int), .int .i64 (sn : Int), .int .i64 (lg : Int), .int .i64 (rc : Int), .bool true] 72)).cell? ⟨w.heap.size, 0, none⟩ = some (.pointer (some ⟨W, 0, none⟩)) := by unfold World.cell?; rw [show _ = _ from H4.out.1]; rfl
    have hcB : Wm (((w.alloc (.cells #[.pointer (some ⟨W, 0, none⟩)] 35)).alloc (.cells #[.int .i64 2] 25)).alloc (.cells #[.pointer (some ⟨b, 0, none⟩), .int .u64 (num : Int), .int .u8 (half : Int), .int .i64 (sn : Int), .int .i64 (lg : Int), .int .i64 (rc : Int), .bool true] 72)) (w.heap.size + 2) b ⟨⟨num, half, sn, lg⟩, rc, true⟩ := H4.out.2.2
    have hcW : Wm (((w.alloc (.cells #[.pointer (some ⟨W, 0, none⟩)] 35)).alloc (.cells #[.int .i64 2] 25)).alloc (.cells #[.pointer (some ⟨b, 0, none⟩), .int .u64 (num : Int), .int .u8 (half : Int), .int .i64 (sn : Int), .int .i64 (lg : Int), .int .i64 (rc : Int), .bool true] 72)) W b ⟨⟨num, half, sn, lg⟩, rc, true⟩ := hw.below HB4.out
    have HPd := hide (powered1_any hc2 hcB hc0 hcW (by omega) (by omega) (by omega))
    have HBs : Hid (D.Mv (FW F W) (FW F W) w (((w.alloc (.cells #[.pointer (some ⟨W, 0, none⟩)] 35)).alloc (.cells #[.int .i64 2] 25)).alloc (.cells #[.pointer (some ⟨b, 0, none⟩), .int .u64 (num : Int), .int .u8 (half : Int), .int .i64 (sn : Int), .int .i64 (lg : Int), .int .i64 (rc : Int), .bool true] 72))) := hide (D.Mv.of_below HB4.out)
    have HDs : Hid (D.Dk base (((w.alloc (.cells #[.pointer (some ⟨W, 0, none⟩)] 35)).alloc (.cells #[.int .i64 2] 25)).alloc (.cells #[.pointer (some ⟨b, 0, none⟩), .int .u64 (num : Int), .int .u8 (half : Int), .int .i64 (sn : Int), .int .i64 (lg : Int), .int .i64 (rc : Int), .bool true] 72)) b F d) := hide (HD.out.below HB4.out)
    clear hc0 hcB hcW d0 d1 d2 d3 d4 d5 d6 dz c0 c1 c2 c3 c4 c5 c6 cz H3 e0 e1 z1 HWm1 HX2 HD1
    refine leaves_cons (f := 52) (args := #[.pointer (some ⟨w.heap.size + 1, 0, none⟩), .pointer (some ⟨w.heap.size + 2, 0, none⟩), .pointer (some ⟨w.heap.size, 0, none⟩)]) (by simp) (by simp [go_sem]) ?_
    refine HPd.out.mono ?_
    rintro e u' w9 ⟨rfl, rfl, hW9, hO9⟩
    have c9 : w9.cell? ⟨w.heap.size + 1, 0, none⟩ = some (.int .i64 2) := by
      unfold World.cell? at hc2 ⊢; rw [show w9.heap[(⟨w.heap.size + 1, 0, none⟩ : Addr).block]? = _ from hO9.block _ (show w.heap.size + 1 ≠ W by omega)]; exact hc2
    simp [Leaves, settle, results, Try.results33, go_sem, c9]
    exact ⟨by rw [HR.out], by rw [HR.out]; exact hW9, F, by rw [HR.out]; exact HDs.out.keep fun k hk => hO9.block k (fun e => hFW (e ▸ hk)), mv_onl HBs.out hO9, hFW⟩
  | false =>
    cases hdd : d.dead with
    | true =>
      have HR : Hid (R = (2, d, ⟨⟨num, half, sn, lg⟩, rc, true⟩)) := hide (by rw [← hR]; exact if_pos (.inr hdd))
      clear hR HC
      have H3 := hide (three (w := w) (a := .cells #[.pointer (some ⟨W, 0, none⟩)] 35) (b := .cells #[.int .i64 0] 25) (c := .cells #[.pointer (some ⟨b, 0, none⟩), .int .u64 (num : Int), .int .u8 (half : Int), .int .i64 (sn : Int), .int .i64 (lg : Int), .int .i64 (rc : Int), .bool false] 72)).2
      have HB1 := hide (bel3 w (.cells #[.pointer (some ⟨W, 0, none⟩)] 35) (.cells #[.int .i64 0] 25) (.cells #[.pointer (some ⟨b, 0, none⟩), .int .u64 (num : Int), .int .u8 (half : Int), .int .i64 (sn : Int), .int .i64 (lg : Int), .int .i64 (rc : Int), .bool false] 72))
      have HWm1 : Hid (Wm (((w.alloc (.cells #[.pointer (some ⟨W, 0, none⟩)] 35)).alloc (.cells #[.int .i64 0] 25)).alloc (.cells #[.pointer (some ⟨b, 0, none⟩), .int .u64 (num : Int), .int .u8 (half : Int), .int .i64 (sn : Int), .int .i64 (lg : Int), .int .i64 (rc : Int), .bool false] 72)) W b ⟨⟨num, half, sn, lg⟩, rc, false⟩) := hide (hw.below HB1.out)
      have HX2 : Hid (Wm (((w.alloc (.cells #[.pointer (some ⟨W, 0, none⟩)] 35)).alloc (.cells #[.int .i64 0] 25)).alloc (.cells #[.pointer (some ⟨b, 0, none⟩), .int .u64 (num : Int), .int .u8 (half : Int), .int .i64 (sn : Int), .int .i64 (lg : Int), .int .i64 (rc : Int), .bool false] 72)) (w.heap.size + 2) b ⟨⟨num, half, sn, lg⟩, rc, false⟩) := hide H3.out.2.2
      have HD1 := hide (h.below HB1.out)
      obtain ⟨c0, c1, c2, c3, c4, c5, c6, cz⟩ := wm_cells hw
      simp only at c0 c1 c2 c3 c4 c5 c6
      have hWl := lt_of_block hw
      have e0 : (((w.alloc (.cells #[.pointer (some ⟨W, 0, none⟩)] 35)).alloc (.cells #[.int .i64 0] 25)).alloc (.cells #[.pointer (some ⟨b, 0, none⟩), .int .u64 (num : Int), .int .u8 (half : Int), .int .i64 (sn : Int), .int .i64 (lg : Int), .int .i64 (rc : Int), .bool false] 72)).cell? ⟨w.heap.size, 0, none⟩ = some (.pointer (some ⟨W, 0, none⟩)) := by unfold World.cell?; rw [show _ = _ from H3.out.1]; rfl
      have e1 : (((w.alloc (.cells #[.pointer (some ⟨W, 0, none⟩)] 35)).alloc (.cells #[.int .i64 0] 25)).alloc (.cells #[.pointer (some ⟨b, 0, none⟩), .int .u64 (num : Int), .int .u8 (half : Int), .int .i64 (sn : Int), .int .i64 (lg : Int), .int .i64 (rc : Int), .bool false] 72)).cell? ⟨w.heap.size + 1, 0, none⟩ = some (.int .i64 0) := by unfold World.cell?; rw [show _ = _ from H3.out.2.1]; rfl
      have z1 : (((w.alloc (.cells #[.pointer (some ⟨W, 0, none⟩)] 35)).alloc (.cells #[.int .i64 0] 25)).alloc (.cells #[.pointer (some ⟨b, 0, none⟩), .int .u64 (num : Int), .int .u8 (half : Int), .int .i64 (sn : Int), .int .i64 (lg : Int), .int .i64 (rc : Int), .bool false] 72)).frozen? ⟨w.heap.size + 1, 0, none⟩ = false := by unfold World.frozen?; rw [show _ = _ from H3.out.2.1]; simp
      obtain ⟨d0, d1, d2, d3, d4, d5, d6, dz⟩ := wm_cells HWm1.out
      simp only at d0 d1 d2 d3 d4 d5 d6
      have HDe := hide (D.dead_any HD1.out)
      rw [hdd] at HDe
      go_enter_defers Try.func33, Try.ntmps33
      go_wp2_with fail
      refine HDe.out.mono ?_
      rintro e w' ⟨rfl, rfl⟩
      go_wp2_with fail
      have H4 := hide (three (w := w) (a := .cells #[.pointer (some ⟨W, 0, none⟩)] 35) (b := .cells #[.int .i64 2] 25) (c := .cells #[.pointer (some ⟨b, 0, none⟩), .int .u64 (num : Int), .int .u8 (half : Int), .int .i64 (sn : Int), .int .i64 (lg : Int), .int .i64 (rc : Int), .bool false] 72)).2
      have HB4 := hide (bel3 w (.cells #[.pointer (some ⟨W, 0, none⟩)] 35) (.cells #[.int .i64 2] 25) (.cells #[.pointer (some ⟨b, 0, none⟩), .int .u64 (num : Int), .int .u8 (half : Int), .int .i64 (sn : Int), .int .i64 (lg : Int), .int .i64 (rc : Int), .bool false] 72))
      have hc2 : (((w.alloc (.cells #[.pointer (some ⟨W, 0, none⟩)] 35)).alloc (.cells #[.int .i64 2] 25)).alloc (.cells #[.pointer (some ⟨b, 0, none⟩), .int .u64 (num : Int), .int .u8 (half : Int), .int .i64 (sn : Int), .int .i64 (lg : Int), .int .i64 (rc : Int), .bool false] 72)).cell? ⟨w.heap.size + 1, 0, none⟩ = some (.int .i64 2) := by unfold World.cell?; rw [show _ = _ from H4.out.2.1]; rfl
      have hc0 : (((w.alloc (.cells #[.pointer (some ⟨W, 0, none⟩)] 35)).alloc (.cells #[.int .i64 2] 25)).alloc (.cells #[.pointer (some ⟨b, 0, none⟩), .int .u64 (num : Int), .int .u8 (half : Int), .int .i64 (sn : Int), .int .i64 (lg : Int), .int .i64 (rc : Int), .bool false] 72)).cell? ⟨w.heap.size, 0, none⟩ = some (.pointer (some ⟨W, 0, none⟩)) := by unfold World.cell?; rw [show _ = _ from H4.out.1]; rfl
      have hcB : Wm (((w.alloc (.cells #[.pointer (some ⟨W, 0, none⟩)] 35)).alloc (.cells #[.int .i64 2] 25)).alloc (.cells #[.pointer (some ⟨b, 0, none⟩), .int .u64 (num : Int), .int .u8 (half : Int), .int .i64 (sn : Int), .int .i64 (lg : Int), .int .i64 (rc : Int), .bool false] 72)) (w.heap.size + 2) b ⟨⟨num, half, sn, lg⟩, rc, false⟩ := H4.out.2.2
      have hcW : Wm (((w.alloc (.cells #[.pointer (some ⟨W, 0, none⟩)] 35)).alloc (.cells #[.int .i64 2] 25)).alloc (.cells #[.pointer (some ⟨b, 0, none⟩), .int .u64 (num : Int), .int .u8 (half : Int), .int .i64 (sn : Int), .int .i64 (lg : Int), .int .i64 (rc : Int), .bool false] 72)) W b ⟨⟨num, half, sn, lg⟩, rc, false⟩ := hw.below HB4.out
      have HPd := hide (powered1_any hc2 hcB hc0 hcW (by omega) (by omega) (by omega))
      have HBs : Hid (D.Mv (FW F W) (FW F W) w (((w.alloc (.cells #[.pointer (some ⟨W, 0, none⟩)] 35)).alloc (.cells #[.int .i64 2] 25)).alloc (.cells #[.pointer (some ⟨b, 0, none⟩), .int .u64 (num : Int), .int .u8 (half : Int), .int .i64 (sn : Int), .int .i64 (lg : Int), .int .i64 (rc : Int), .bool false] 72))) := hide (D.Mv.of_below HB4.out)
      have HDs : Hid (D.Dk base (((w.alloc (.cells #[.pointer (some ⟨W, 0, none⟩)] 35)).alloc (.cells #[.int .i64 2] 25)).alloc (.cells #[.pointer (some ⟨b, 0, none⟩), .int .u64 (num : Int), .int .u8 (half : Int), .int .i64 (sn : Int), .int .i64 (lg : Int), .int .i64 (rc : Int), .bool false] 72)) b F d) := hide (HD.out.below HB4.out)
      clear hc0 hcB hcW d0 d1 d2 d3 d4 d5 d6 dz c0 c1 c2 c3 c4 c5 c6 cz H3 e0 e1 z1 HWm1 HX2 HD1
      refine leaves_cons (f := 52) (args := #[.pointer (some ⟨w.heap.size + 1, 0, none⟩), .pointer (some ⟨w.heap.size + 2, 0, none⟩), .pointer (some ⟨w.heap.size, 0, none⟩)]) (by simp) (by simp [go_sem]) ?_
      refine HPd.out.mono ?_
      rintro e u' w9 ⟨rfl, rfl, hW9, hO9⟩
      have c9 : w9.cell? ⟨w.heap.size + 1, 0, none⟩ = some (.int .i64 2) := by
        unfold World.cell? at hc2 ⊢; rw [show w9.heap[(⟨w.heap.size + 1, 0, none⟩ : Addr).block]? = _ from hO9.block _ (show w.heap.size + 1 ≠ W by omega)]; exact hc2
      simp [Leaves, settle, results, Try.results33, go_sem, c9]
      exact ⟨by rw [HR.out], by rw [HR.out]; exact hW9, F, by rw [HR.out]; exact HDs.out.keep fun k hk => hO9.block k (fun e => hFW (e ▸ hk)), mv_onl HBs.out hO9, hFW⟩
    | false =>
      have HR : Hid (R = (r.1, r.2, wsAfter r.1 ⟨⟨num, half, sn, lg⟩, rc, false⟩ ws1)) := hide (by rw [← hR]; exact if_neg (by simp [hdd]))
      clear hR
      have H3 := hide (three (w := w) (a := .cells #[.pointer (some ⟨W, 0, none⟩)] 35) (b := .cells #[.int .i64 0] 25) (c := .cells #[.pointer (some ⟨b, 0, none⟩), .int .u64 (num : Int), .int .u8 (half : Int), .int .i64 (sn : Int), .int .i64 (lg : Int), .int .i64 (rc : Int), .bool false] 72)).2
      have HB1 := hide (bel3 w (.cells #[.pointer (some ⟨W, 0, none⟩)] 35) (.cells #[.int .i64 0] 25) (.cells #[.pointer (some ⟨b, 0, none⟩), .int .u64 (num : Int), .int .u8 (half : Int), .int .i64 (sn : Int), .int .i64 (lg : Int), .int .i64 (rc : Int), .bool false] 72))
      have HWm1 : Hid (Wm (((w.alloc (.cells #[.pointer (some ⟨W, 0, none⟩)] 35)).alloc (.cells #[.int .i64 0] 25)).alloc (.cells #[.pointer (some ⟨b, 0, none⟩), .int .u64 (num : Int), .int .u8 (half : Int), .int .i64 (sn : Int), .int .i64 (lg : Int), .int .i64 (rc : Int), .bool false] 72)) W b ⟨⟨num, half, sn, lg⟩, rc, false⟩) := hide (hw.below HB1.out)
      have HX2 : Hid (Wm (((w.alloc (.cells #[.pointer (some ⟨W, 0, none⟩)] 35)).alloc (.cells #[.int .i64 0] 25)).alloc (.cells #[.pointer (some ⟨b, 0, none⟩), .int .u64 (num : Int), .int .u8 (half : Int), .int .i64 (sn : Int), .int .i64 (lg : Int), .int .i64 (rc : Int), .bool false] 72)) (w.heap.size + 2) b ⟨⟨num, half, sn, lg⟩, rc, false⟩) := hide H3.out.2.2
      have HD1 := hide (h.below HB1.out)
      obtain ⟨c0, c1, c2, c3, c4, c5, c6, cz⟩ := wm_cells hw
      simp only at c0 c1 c2 c3 c4 c5 c6
      have hWl := lt_of_block hw
      have e0 : (((w.alloc (.cells #[.pointer (some ⟨W, 0, none⟩)] 35)).alloc (.cells #[.int .i64 0] 25)).alloc (.cells #[.pointer (some ⟨b, 0, none⟩), .int .u64 (num : Int), .int .u8 (half : Int), .int .i64 (sn : Int), .int .i64 (lg : Int), .int .i64 (rc : Int), .bool false] 72)).cell? ⟨w.heap.size, 0, none⟩ = some (.pointer (some ⟨W, 0, none⟩)) := by unfold World.cell?; rw [show _ = _ from H3.out.1]; rfl
      have e1 : (((w.alloc (.cells #[.pointer (some ⟨W, 0, none⟩)] 35)).alloc (.cells #[.int .i64 0] 25)).alloc (.cells #[.pointer (some ⟨b, 0, none⟩), .int .u64 (num : Int), .int .u8 (half : Int), .int .i64 (sn : Int), .int .i64 (lg : Int), .int .i64 (rc : Int), .bool false] 72)).cell? ⟨w.heap.size + 1, 0, none⟩ = some (.int .i64 0) := by unfold World.cell?; rw [show _ = _ from H3.out.2.1]; rfl
      have z1 : (((w.alloc (.cells #[.pointer (some ⟨W, 0, none⟩)] 35)).alloc (.cells #[.int .i64 0] 25)).alloc (.cells #[.pointer (some ⟨b, 0, none⟩), .int .u64 (num : Int), .int .u8 (half : Int), .int .i64 (sn : Int), .int .i64 (lg : Int), .int .i64 (rc : Int), .bool false] 72)).frozen? ⟨w.heap.size + 1, 0, none⟩ = false := by unfold World.frozen?; rw [show _ = _ from H3.out.2.1]; simp
      obtain ⟨d0, d1, d2, d3, d4, d5, d6, dz⟩ := wm_cells HWm1.out
      simp only at d0 d1 d2 d3 d4 d5 d6
      have HDe := hide (D.dead_any HD1.out)
      rw [hdd] at HDe
      have HCa := hide (HC.out hdd rfl _ HB1.out)
      obtain ⟨re, rd⟩ := r
      simp only at HCa HR
      clear HC
      go_enter_defers Try.func33, Try.ntmps33
      go_wp2_with fail
      refine HDe.out.mono ?_
      rintro e w' ⟨rfl, rfl⟩
      go_wp2_with fail
      refine HCa.out.mono ?_
      rintro e w2 ⟨rfl, hW2, F', hD2, hM2, hnF⟩
      have hn0 : ¬ FW F W w.heap.size := fun k => by rcases k with k | k; exact absurd (HD.out.ftlt _ k).2 (Nat.lt_irrefl _); omega
      have hn1 : ¬ FW F W (w.heap.size + 1) := fun k => by rcases k with k | k; exact absurd (HD.out.ftlt _ k).2 (by omega); omega
      have hn2 : ¬ FW F W (w.heap.size + 2) := fun k => by rcases k with k | k; exact absurd (HD.out.ftlt _ k).2 (by omega); omega
      have b0 := (hM2.block _ (lt_of_block H3.out.1) hn0).trans H3.out.1
      have b1 := (hM2.block _ (lt_of_block H3.out.2.1) hn1).trans H3.out.2.1
      have b2 := (hM2.block _ (lt_of_block H3.out.2.2) hn2).trans H3.out.2.2
      have k1 : w2.cell? ⟨w.heap.size + 1, 0, none⟩ = some (.int .i64 0) := by unfold World.cell?; rw [show _ = _ from b1]; rfl
      have y1 : w2.frozen? ⟨w.heap.size + 1, 0, none⟩ = false := by unfold World.frozen?; rw [show _ = _ from b1]; simp
      have k0 : w2.cell? ⟨w.heap.size, 0, none⟩ = some (.pointer (some ⟨W, 0, none⟩)) := by unfold World.cell?; rw [show _ = _ from b0]; rfl
      have hc2 : (w2.setCell ⟨w.heap.size + 1, 0, none⟩ (.int .i64 re)).cell? ⟨w.heap.size + 1, 0, none⟩ = some (.int .i64 re) := World.cell?_setCell_same _ _ _ k1
      have hc0 : (w2.setCell ⟨w.heap.size + 1, 0, none⟩ (.int .i64 re)).cell? ⟨w.heap.size, 0, none⟩ = some (.pointer (some ⟨W, 0, none⟩)) := (World.cell?_setCell_far _ _ _ _ (by simp)).trans k0
      have hcB : Wm (w2.setCell ⟨w.heap.size + 1, 0, none⟩ (.int .i64 re)) (w.heap.size + 2) b ⟨⟨num, half, sn, lg⟩, rc, false⟩ := (Below.heap_setCell _ _ _ _ (by simp)).trans b2
      have hcW : Wm (w2.setCell ⟨w.heap.size + 1, 0, none⟩ (.int .i64 re)) W b ws1 := (Below.heap_setCell _ _ _ _ (show W ≠ w.heap.size + 1 by omega)).trans hW2
      have HPd := hide (powered1_any hc2 hcB hc0 hcW (by omega) (by omega) (by omega))
      have HBs : Hid (D.Mv (FW F W) (FW F' W) w (w2.setCell ⟨w.heap.size + 1, 0, none⟩ (.int .i64 re))) := hide (mv_set ((D.Mv.of_below HB1.out).trans hM2) (by simp))
      have hF1 : ∀ k, F' k → k ≠ w.heap.size + 1 ∧ k ≠ W := fun k hk => by
        refine ⟨?_, fun e => hnF (e ▸ hk)⟩
        rcases hM2.foot k (.inl hk) with (h5 | h5) | h5
        · have := (HD.out.ftlt k h5).2; omega
        · omega
        · simp only [World.size_alloc] at h5; omega
      have HDs : Hid (D.Dk base (w2.setCell ⟨w.heap.size + 1, 0, none⟩ (.int .i64 re)) b F' rd) := hide (hD2.keep fun k hk => Below.heap_setCell _ _ _ _ (hF1 k hk).1)
      clear hc0 hcB hcW d0 d1 d2 d3 d4 d5 d6 dz c0 c1 c2 c3 c4 c5 c6 cz H3 e0 e1 z1 HWm1 HX2 HD1 hM2 hD2 hW2 b0 b1 b2 HDe HCa
      go_wp2_with fail
      refine leaves_cons (f := 52) (args := #[.pointer (some ⟨w.heap.size + 1, 0, none⟩), .pointer (some ⟨w.heap.size + 2, 0, none⟩), .pointer (some ⟨w.heap.size, 0, none⟩)]) (by simp) (by simp [go_sem]) ?_
      refine HPd.out.mono ?_
      rintro e u' w9 ⟨rfl, rfl, hW9, hO9⟩
      have c9 : w9.cell? ⟨w.heap.size + 1, 0, none⟩ = some (.int .i64 re) := by
        unfold World.cell? at hc2 ⊢; rw [show w9.heap[(⟨w.heap.size + 1, 0, none⟩ : Addr).block]? = _ from hO9.block _ (show w.heap.size + 1 ≠ W by omega)]; exact hc2
      simp [Leaves, settle, results, Try.results33, go_sem, c9]
      exact ⟨by rw [HR.out], by rw [HR.out]; exact hW9, F', by rw [HR.out]; exact HDs.out.keep fun k hk => hO9.block k (hF1 k hk).2, mv_onl HBs.out hO9, hnF⟩
end Go.Proofs.Ytojghjgbnnkldaa
end
