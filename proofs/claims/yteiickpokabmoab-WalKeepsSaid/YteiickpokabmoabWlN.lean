import Derived.Test.YteiickpokabmoabWlM
namespace Go.Proofs.Yteiickpokabmoab
open Go.RowKit Go.Shelf
open Wl (Hd WS Log)

theorem wm_cells {w : World} {X : Nat} {a b c d e f g : Value} {t : TypeId} (h : w.heap[X]? = some (.cells #[a, b, c, d, e, f, g] t (0, 0))) : w.cell? ⟨X, 0, none⟩ = some a ∧ w.cell? ⟨X, 1, none⟩ = some b ∧ w.cell? ⟨X, 2, none⟩ = some c ∧ w.cell? ⟨X, 3, none⟩ = some d ∧ w.cell? ⟨X, 4, none⟩ = some e ∧ w.cell? ⟨X, 5, none⟩ = some f ∧ w.cell? ⟨X, 6, none⟩ = some g ∧ ∀ k, w.frozen? ⟨X, k, none⟩ = false := by
  refine ⟨?_, ?_, ?_, ?_, ?_, ?_, ?_, ?_⟩
  all_goals first | (unfold World.cell?; rw [h]; rfl) | (intro k; unfold World.frozen?; rw [h]; simp)
theorem roomF_succ (left k : Nat) : Wl.roomF left (k + 1) = if (Pk.enc (k + 1)).length + (k + 1) ≤ left then k + 1 else Wl.roomF left k := rfl
set_option maxHeartbeats 1000000 in
set_option maxRecDepth 8000 in
theorem room_any {base : Nat} {w : World} {b W : Nat} {F : Nat → Prop} {d : D.DS} {ws : WS} (h : D.Dk base w b F d) (hw : Wm w W b ws) (ho : Wl.Ok d ws) :
    Calls Try.prog 17 #[.pointer (some ⟨W, 0, none⟩)] w fun e w' => e = .returned (.int .i64 (Wl.room d.S.length ws.h : Int)) ∧ Below w.heap.size w w' := by
  have HD := hide h
  have hu := ho.used
  have h3 := hs_le _ h.ok.s1
  have hhb : Wl.hb d.S.length ≤ 65536 := by unfold Wl.hb; omega
  obtain ⟨⟨num, half, sn, lg⟩, rc, gone⟩ := ws
  have hu2 : sn + lg ≤ Wl.hb d.S.length := hu
  have HUs := hide (fun V => used_any ⟨num, half, sn, lg⟩ (show sn ≤ 4294967296 by omega) (show lg ≤ 4294967296 by omega) V)
  have HRm : Hid (Wl.room d.S.length ⟨num, half, sn, lg⟩ = Wl.roomF (Wl.hb d.S.length - Hd.used ⟨num, half, sn, lg⟩) (min (Wl.hb d.S.length - Hd.used ⟨num, half, sn, lg⟩) 2048)) := hide rfl
  obtain ⟨R, hR⟩ : ∃ R, Wl.room d.S.length ⟨num, half, sn, lg⟩ = R := ⟨_, rfl⟩
  simp only [hR] at HRm ⊢
  have HRr := HRm
  generalize Hd.used ⟨num, half, sn, lg⟩ = U at *
  have hst : w.heap[W]? = some (.cells #[.pointer (some ⟨b, 0, none⟩), .int .u64 (num : Int), .int .u8 (half : Int), .int .i64 (sn : Int), .int .i64 (lg : Int), .int .i64 (rc : Int), .bool gone] 56 (0, 0)) := hw
  have HB0 : Hid (Below w.heap.size w w.drew) := hide ⟨rfl, rfl, rfl, Nat.le_refl _, fun _ _ => rfl⟩
  clear h hw ho hR HRm hu2
  simp only [hdC] at *
  go_enter Try.func17, Try.ntmps17
  go_wp2_with fail
  refine wp_region_held_drew (S := fun w' => w'.heap[W]? = some (.cells #[.pointer (some ⟨b, 0, none⟩), .int .u64 (num : Int), .int .u8 (half : Int), .int .i64 (sn : Int), .int .i64 (lg : Int), .int .i64 (rc : Int), .bool gone] 56 (0, 0))) (by kernel_rfl) (hst) (fun hHeld => ?_)
  refine wpAnyH_take (i := 0) (v := .pointer (some ⟨W, 0, none⟩)) rfl (by kernel_rfl) (by kernel_rfl) (by kernel_rfl) (fun _ _ _ h => h) (Or.inl ⟨by rfl, fun w1 hSw => by clear hHeld; obtain ⟨c0, c1, c2, c3, c4, c5, c6, cz⟩ := wm_cells hSw; go_simp⟩) hHeld ?_
  simp only [Act.put, List.setIfInBounds_toArray]
  refine wpAnyH_take (i := 1) (v := .pointer (some ⟨W, 0, none⟩)) rfl (by kernel_rfl) (by kernel_rfl) (by kernel_rfl) (fun _ _ _ h => h) (Or.inl ⟨by rfl, fun w1 hSw => by clear hHeld; obtain ⟨c0, c1, c2, c3, c4, c5, c6, cz⟩ := wm_cells hSw; go_simp⟩) hHeld ?_
  try simp only [Act.put]
  refine wpAnyH_take (i := 2) (v := .pointer (some ⟨W, 0, none⟩)) rfl (by kernel_rfl) (by kernel_rfl) (by kernel_rfl) (fun _ _ _ h => h) (Or.inl ⟨by rfl, fun w1 hSw => by clear hHeld; obtain ⟨c0, c1, c2, c3, c4, c5, c6, cz⟩ := wm_cells hSw; go_simp⟩) hHeld ?_
  try simp only [Act.put]
  refine wpAnyH_take (i := 3) (v := .pointer (some ⟨b, 0, none⟩)) rfl (by kernel_rfl) (by kernel_rfl) (by kernel_rfl) (fun _ _ _ h => h) (Or.inl ⟨by rfl, fun w1 hSw => by clear hHeld; obtain ⟨c0, c1, c2, c3, c4, c5, c6, cz⟩ := wm_cells hSw; go_simp⟩) hHeld ?_
  try simp only [Act.put]
  refine wpAnyH_take (i := 5) (v := .pointer (some ⟨W, 0, none⟩)) rfl (by kernel_rfl) (by kernel_rfl) (by kernel_rfl) (fun _ _ _ h => h) (Or.inl ⟨by rfl, fun w1 hSw => by clear hHeld; obtain ⟨c0, c1, c2, c3, c4, c5, c6, cz⟩ := wm_cells hSw; go_simp⟩) hHeld ?_
  try simp only [Act.put]
  refine wpAnyH_take (i := 6) (v := .pointer (some ⟨W, 0, none⟩)) rfl (by kernel_rfl) (by kernel_rfl) (by kernel_rfl) (fun _ _ _ h => h) (Or.inl ⟨by rfl, fun w1 hSw => by clear hHeld; obtain ⟨c0, c1, c2, c3, c4, c5, c6, cz⟩ := wm_cells hSw; go_simp⟩) hHeld ?_
  try simp only [Act.put]
  refine wpAnyH_take (i := 7) (v := .pointer (some ⟨W, 1, none⟩)) rfl (by kernel_rfl) (by kernel_rfl) (by kernel_rfl) (fun _ _ _ h => h) (Or.inl ⟨by rfl, fun w1 hSw => by clear hHeld; obtain ⟨c0, c1, c2, c3, c4, c5, c6, cz⟩ := wm_cells hSw; go_simp⟩) hHeld ?_
  try simp only [Act.put]
  refine wpAnyH_take (i := 8) (v := .agg #[.int .u64 (num : Int), .int .u8 (half : Int), .int .i64 (sn : Int), .int .i64 (lg : Int)]) rfl (by kernel_rfl) (by kernel_rfl) (by kernel_rfl) (fun _ _ _ h => h) (Or.inl ⟨by rfl, fun w1 hSw => by clear hHeld; obtain ⟨c0, c1, c2, c3, c4, c5, c6, cz⟩ := wm_cells hSw; go_simp⟩) hHeld ?_
  try simp only [Act.put]
  refine wpAnyH_ready (rs := [4]) (by kernel_rfl) (by simp) ?_
  refine AllReadyH.cons rfl (fun K hK => ?_) AllReadyH.nil
  go_simp
  refine (halfBytes_any (HD.out.below HB0.out)).mono ?_
  rintro e w0a ⟨rfl, rfl⟩
  have HB1 := HB0
  refine hK.out _ _ (hHeld) (fun hHeld => ?_)
  clear hK K
  refine wpAnyH_ready (rs := [9]) (by kernel_rfl) (by simp) ?_
  refine AllReadyH.cons rfl (fun K hK => ?_) AllReadyH.nil
  go_simp
  refine (HUs.out _).mono ?_
  rintro e w1a ⟨rfl, rfl⟩
  have HB2 := hide (HB1.out.alloc HB1.out.size (.cells #[.int .u64 (num : Int), .int .u8 (half : Int), .int .i64 (sn : Int), .int .i64 (lg : Int)] 54))
  refine hK.out _ _ (box_al hHeld _) (fun hHeld => ?_)
  clear hK K
  refine wpAnyH_ready (rs := [10]) (by kernel_rfl) (by simp) ?_
  refine AllReadyH.cons rfl (fun K hK => ?_) AllReadyH.nil
  go_simp
  have HB3 := HB2
  refine hK.out _ _ (hHeld) (fun hHeld => ?_)
  clear hK K
  refine wpAnyH_ready (rs := [11]) (by kernel_rfl) (by simp) ?_
  refine AllReadyH.cons rfl (fun K hK => ?_) AllReadyH.nil
  go_simp
  have HB4 := HB3
  refine hK.out _ _ (hHeld) (fun hHeld => ?_)
  clear hK K
  refine wpAnyH_done (by kernel_rfl) ?_ _
  clear hHeld
  have HBr := HB4
  generalize Wl.hb d.S.length = H at *
  have hsub : (H : Int) - (U : Int) = ((H - U : Nat) : Int) := by omega
  rw [hsub] at *
  generalize hL : H - U = L at *
  have hl1 : L ≤ 65536 := by omega
  have hwr : IntKind.i64.wrap (L : Int) = (L : Int) := by rw [IntKind.wrap_i64]; omega
  simp only [hwr]
  clear hsub hL hu hhb hwr
  generalize hm : min L 2048 = m0 at *
  have hmi : min (L : Int) 2048 = (m0 : Int) := by omega
  have hm1 : m0 ≤ 2048 := by omega
  go_wp2_with fail
  go_loopw [4] (fun s wr => ∃ k : Nat, k ≤ m0 ∧ s = .int .i64 (k : Int) ∧ Hid (R = Wl.roomF L k) ∧ Hid (Below w.heap.size w wr)) (fun s _ => (intOf s).toNat)
  case atStart => exact ⟨m0, Nat.le_refl _, rfl, HRr, HBr⟩
  case round =>
    obtain ⟨k, hk, rfl, HK, HB⟩ := hrel
    by_cases hk0 : 0 < k
    · have hki : 0 < (k : Int) := by omega
      obtain ⟨j, rfl⟩ : ∃ j, k = j + 1 := ⟨k - 1, by omega⟩
      have HFb := hide (frameBytes_any (j + 1) (by omega) wr)
      have hen := Pk.enc_ten (n := j + 1) (by omega)
      have HSu := hide (roomF_succ L j)
      generalize (Pk.enc (j + 1)).length = E at *
      go_wp2_with fail
      refine HFb.out.mono ?_
      rintro e w2 ⟨rfl, hb2⟩
      have HB2 := hide (HB.out.trans (hb2.mono HB.out.size))
      clear hb2 HFb
      by_cases hc : E + (j + 1) ≤ L
      · have hci : ((E + (j + 1) : Nat) : Int) ≤ (L : Int) := by omega
        have b1 : decide (E + (j + 1) ≤ L) = true := decide_eq_true hc
        have HF : Hid (R = j + 1) := hide (by rw [HK.out, HSu.out, if_pos hc])
        clear HK HSu
        go_wp2_with fail
        go_ret
        exact ⟨by rw [HF.out]; rfl, HB2.out⟩
      · have hci : ¬ ((E + (j + 1) : Nat) : Int) ≤ (L : Int) := by omega
        have b1 : decide (E + (j + 1) ≤ L) = false := decide_eq_false hc
        have HF : Hid (R = Wl.roomF L j) := hide (by rw [HK.out, HSu.out, if_neg hc])
        clear HK HSu
        go_wp2_with fail
        go_roundw
        case rel => exact ⟨j, by omega, by simp, HF, HB2⟩
        case measure => simp only [intOf]; omega
    · have hki : ¬ 0 < (k : Int) := by omega
      obtain rfl : k = 0 := by omega
      have HF : Hid (R = 0) := hide HK.out
      clear HK
      go_wp2_with fail
      go_ret
      exact ⟨by rw [HF.out]; rfl, HB.out⟩
end Go.Proofs.Yteiickpokabmoab
