import Derived.Test.YteiickpokabmoabWlN
namespace Go.Proofs.Yteiickpokabmoab
open Go.RowKit Go.Shelf
open Wl (Hd WS Log)

theorem wsec_R (l : List ByteArray) : ∀ (d : D.DS) (k : Nat), (Wl.wsec d k l).2.R.length ≤ d.R.length + l.length := by
  induction l with
  | nil => intro d k; exact Nat.le_refl _
  | cons s l ih =>
    intro d k
    rw [wsec_cons]
    have h1 := write_R d k s
    split
    · rw [List.length_cons]; omega
    · have := ih (d.write k s).2 (k + 1)
      rw [List.length_cons]; omega
set_option maxHeartbeats 400000 in
set_option maxRecDepth 8000 in
theorem lay_any {base : Nat} {w : World} {b W g first m : Nat} {F : Nat → Prop} {d : D.DS} {ws : WS} {l : List UInt8} (h : D.Dk base w b F d) (hw : Wm w W b ws) (hFW : ¬ F W) (h0 : ws.h.num < 18446744073709551616) (h1 : ws.h.half < 256) (h2 : ws.h.sn < 4294967296) (h3 : ws.h.lg < 4294967296)
    (hl : l.length = m * 128) (hb : Bf w g l) (hg : ¬ F g) (hm : m ≤ 1000) (hf : first ≤ 100000) (hR : (d.R.length + m + 1) * 24 ≤ 140737488355328) :
    Calls Try.prog 38 #[.pointer (some ⟨W, 0, none⟩), .int .i64 (first : Int), .slice (some ⟨g, 0, none⟩) (m * 128) (m * 128)] w fun e w' => e = .returned (.int .i64 (Wl.layW d first (secs l m) ws.h).1) ∧ ∃ F', D.Dk base w' b F' (Wl.layW d first (secs l m) ws.h).2 ∧ D.Mv F F' w w' := by
  have HWS := hide (writeSectors_any h hl hb hg hm hf (by omega))
  have HRl : Hid ((Wl.wsec d first (secs l m)).2.R.length ≤ d.R.length + m) := hide (by have := wsec_R (secs l m) d first; rw [show (secs l m).length = m by simp [secs]] at this; exact this)
  obtain ⟨R, hRR⟩ : ∃ R, Wl.layW d first (secs l m) ws.h = R := ⟨_, rfl⟩
  obtain ⟨xe, xd, hX⟩ : ∃ xe xd, Wl.wsec d first (secs l m) = (xe, xd) := ⟨_, _, rfl⟩
  have HL0 : Hid (xe = 0 → R = xd.write ((ws.h.num % 2 : Nat) : Int) (Wl.headB ws.h)) := hide fun h => by rw [← hRR]; unfold Wl.layW; rw [hX, if_neg (by simp [h])]
  have HL1 : Hid (xe ≠ 0 → R = (xe, xd)) := hide fun h => by rw [← hRR]; unfold Wl.layW; rw [hX, if_pos h]
  rw [hRR]
  rw [hX] at HWS HRl
  have HRl2 : Hid (xd.R.length ≤ d.R.length + m) := HRl
  have hR2 : (xd.R.length + 1) * 24 ≤ 140737488355328 := Nat.le_trans (Nat.mul_le_mul_right 24 (Nat.succ_le_succ HRl2.out)) hR
  clear HRl HRl2
  obtain ⟨⟨num, half, sn, lg⟩, rc, gone⟩ := ws
  have hst : w.heap[W]? = some (.cells #[.pointer (some ⟨b, 0, none⟩), .int .u64 (num : Int), .int .u8 (half : Int), .int .i64 (sn : Int), .int .i64 (lg : Int), .int .i64 (rc : Int), .bool gone] 56 (0, 0)) := hw
  obtain ⟨c0, c1, c2, c3, c4, c5, c6, cz⟩ := wm_cells hst
  have HST := hide hst
  clear h hw hb hg hl hRR hst hX
  simp only at h0 h1 h2 h3 HL0
  go_enter Try.func38, Try.ntmps38
  go_wp2_with fail
  refine HWS.out.mono ?_
  rintro e w2 ⟨rfl, F2, hD2, hM2⟩
  have HD2 := hide hD2
  have HM2 := hide hM2
  have HS2 := hide ((hM2.block _ (lt_of_block HST.out) hFW).trans HST.out)
  have HF2W : Hid (¬ F2 W) := hide fun k => by
    rcases hM2.foot W k with h5 | h5
    · exact hFW h5
    · exact absurd (lt_of_block HST.out) (by omega)
  clear hD2 hM2 HWS
  by_cases hx : xe = 0
  · subst hx
    have HW3 := hide (HL0.out rfl)
    have HD2d : Hid (D.Dk base w2.drew b F2 xd) := hide HD2.out.drew
    have HM2d : Hid (D.Mv F F2 w w2.drew) := hide ⟨HM2.out.os, HM2.out.tape, HM2.out.output, HM2.out.size, HM2.out.block, HM2.out.foot⟩
    clear HL0 HL1 HD2 HM2
    go_wp2_with fail
    refine wp_region_held_drew (S := fun w' => w'.heap[W]? = some (.cells #[.pointer (some ⟨b, 0, none⟩), .int .u64 (num : Int), .int .u8 (half : Int), .int .i64 (sn : Int), .int .i64 (lg : Int), .int .i64 (rc : Int), .bool gone] 56 (0, 0))) (by kernel_rfl) (HS2.out) (fun hHeld => ?_)
    refine wpAnyH_take (i := 0) (v := .pointer (some ⟨W, 0, none⟩)) rfl (by kernel_rfl) (by kernel_rfl) (by kernel_rfl) (fun _ _ _ h => h) (Or.inl ⟨by rfl, fun w1 hSw => by clear hHeld; obtain ⟨c0, c1, c2, c3, c4, c5, c6, cz⟩ := wm_cells hSw; go_simp⟩) hHeld ?_
    simp only [Act.put, List.setIfInBounds_toArray]
    refine wpAnyH_take (i := 1) (v := .pointer (some ⟨W, 0, none⟩)) rfl (by kernel_rfl) (by kernel_rfl) (by kernel_rfl) (fun _ _ _ h => h) (Or.inl ⟨by rfl, fun w1 hSw => by clear hHeld; obtain ⟨c0, c1, c2, c3, c4, c5, c6, cz⟩ := wm_cells hSw; go_simp⟩) hHeld ?_
    try simp only [Act.put]
    refine wpAnyH_take (i := 2) (v := .pointer (some ⟨W, 0, none⟩)) rfl (by kernel_rfl) (by kernel_rfl) (by kernel_rfl) (fun _ _ _ h => h) (Or.inl ⟨by rfl, fun w1 hSw => by clear hHeld; obtain ⟨c0, c1, c2, c3, c4, c5, c6, cz⟩ := wm_cells hSw; go_simp⟩) hHeld ?_
    try simp only [Act.put]
    refine wpAnyH_take (i := 3) (v := .pointer (some ⟨b, 0, none⟩)) rfl (by kernel_rfl) (by kernel_rfl) (by kernel_rfl) (fun _ _ _ h => h) (Or.inl ⟨by rfl, fun w1 hSw => by clear hHeld; obtain ⟨c0, c1, c2, c3, c4, c5, c6, cz⟩ := wm_cells hSw; go_simp⟩) hHeld ?_
    try simp only [Act.put]
    refine wpAnyH_take (i := 4) (v := .pointer (some ⟨W, 0, none⟩)) rfl (by kernel_rfl) (by kernel_rfl) (by kernel_rfl) (fun _ _ _ h => h) (Or.inl ⟨by rfl, fun w1 hSw => by clear hHeld; obtain ⟨c0, c1, c2, c3, c4, c5, c6, cz⟩ := wm_cells hSw; go_simp⟩) hHeld ?_
    try simp only [Act.put]
    refine wpAnyH_take (i := 5) (v := .pointer (some ⟨W, 0, none⟩)) rfl (by kernel_rfl) (by kernel_rfl) (by kernel_rfl) (fun _ _ _ h => h) (Or.inl ⟨by rfl, fun w1 hSw => by clear hHeld; obtain ⟨c0, c1, c2, c3, c4, c5, c6, cz⟩ := wm_cells hSw; go_simp⟩) hHeld ?_
    try simp only [Act.put]
    refine wpAnyH_take (i := 6) (v := .pointer (some ⟨W, 1, none⟩)) rfl (by kernel_rfl) (by kernel_rfl) (by kernel_rfl) (fun _ _ _ h => h) (Or.inl ⟨by rfl, fun w1 hSw => by clear hHeld; obtain ⟨c0, c1, c2, c3, c4, c5, c6, cz⟩ := wm_cells hSw; go_simp⟩) hHeld ?_
    try simp only [Act.put]
    refine wpAnyH_take (i := 7) (v := .agg #[.int .u64 (num : Int), .int .u8 (half : Int), .int .i64 (sn : Int), .int .i64 (lg : Int)]) rfl (by kernel_rfl) (by kernel_rfl) (by kernel_rfl) (fun _ _ _ h => h) (Or.inl ⟨by rfl, fun w1 hSw => by clear hHeld; obtain ⟨c0, c1, c2, c3, c4, c5, c6, cz⟩ := wm_cells hSw; go_simp⟩) hHeld ?_
    try simp only [Act.put]
    refine wpAnyH_ready (rs := [8]) (by kernel_rfl) (by simp) ?_
    refine AllReadyH.cons rfl (fun K hK => ?_) AllReadyH.nil
    go_simp
    refine (writeHead_any HD2d.out ⟨num, half, sn, lg⟩ h0 h1 h2 h3 hR2).mono ?_
    rintro e w9 ⟨rfl, F', hD', hM'⟩
    have HQ := hide hD'
    have HQM := hide (HM2d.out.trans hM')
    have hs9 := (hM'.block _ (lt_of_block hHeld) HF2W.out).trans hHeld
    clear hD' hM'
    refine hK.out _ _ (hs9) (fun hHeld => ?_)
    clear hK K
    refine wpAnyH_ready (rs := [9]) (by kernel_rfl) (by simp) ?_
    refine AllReadyH.cons rfl (fun K hK => ?_) AllReadyH.nil
    go_simp
    refine hK.out _ _ (hHeld) (fun hHeld => ?_)
    clear hK K
    refine wpAnyH_done (by kernel_rfl) ?_ _
    clear hHeld
    go_wp2_with fail
    go_ret
    exact ⟨by rw [HW3.out]; rfl, F', by rw [HW3.out]; exact HQ.out, HQM.out⟩
  · have HW3 : Hid ((xe, xd) = R) := hide (HL1.out hx).symm
    have bx : (xe != 0) = true := by simpa using hx
    clear HL0 HL1
    go_wp2_with fail
    go_ret
    exact ⟨by rw [← HW3.out]; rfl, F2, by rw [← HW3.out]; exact HD2.out, HM2.out⟩
end Go.Proofs.Yteiickpokabmoab
