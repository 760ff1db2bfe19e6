import Derived.Test.YteiickpokabmoabWlL
namespace Go.Proofs.Yteiickpokabmoab
open Go.RowKit Go.Shelf
open Wl (Hd WS Log)

namespace Wl
def h1 : Hd := ⟨1, 0, 0, 0⟩
def fmt (d : D.DS) : Int × D.DS := if d.dead = true then (2, d) else if ¬ Fits d.S.length then (91, d) else match find d.S with
  | some _ => (95, d)
  | none => d.write 1 (headB h1)
end Wl
theorem fmt_dead {d : D.DS} (h : d.dead = true) : Wl.fmt d = (2, d) := if_pos h
theorem fmt_no {d : D.DS} (h : d.dead = false) (hf : ¬ Wl.Fits d.S.length) : Wl.fmt d = (91, d) := by unfold Wl.fmt; rw [if_neg (by simp [h]), if_pos hf]
theorem fmt_yes {d : D.DS} (h : d.dead = false) (hf : Wl.Fits d.S.length) : Wl.fmt d = match Wl.find d.S with
  | some _ => (95, d)
  | none => d.write 1 (Wl.headB Wl.h1) := by unfold Wl.fmt; rw [if_neg (by simp [h]), if_neg (by simpa using hf)]
/-- a log's block -/
def Wm (w : World) (W b : Nat) (ws : WS) : Prop := w.heap[W]? = some (.cells #[.pointer (some ⟨b, 0, none⟩), .int .u64 (ws.h.num : Int), .int .u8 (ws.h.half : Int), .int .i64 (ws.h.sn : Int), .int .i64 (ws.h.lg : Int), .int .i64 (ws.rc : Int), .bool ws.gone] 56 (0, 0))
set_option maxHeartbeats 1000000 in
set_option maxRecDepth 8000 in
theorem format_any {base : Nat} {w : World} {b : Nat} {F : Nat → Prop} {d : D.DS} (h : D.Dk base w b F d) (hR : (d.R.length + 1) * 24 ≤ 140737488355328) :
    Calls Try.prog 15 #[.pointer (some ⟨b, 0, none⟩)] w fun e w' => e = .returned (.int .i64 (Wl.fmt d).1) ∧ ∃ F', D.Dk base w' b F' (Wl.fmt d).2 ∧ D.Mv F F' w w' := by
  have HD := hide h
  cases hd : d.dead with
  | true =>
    rw [fmt_dead hd]
    have HF := hide (find_dead h hd)
    clear h
    unfold zeroLog at HF
    go_enter Try.func15, Try.ntmps15
    go_wp2_with fail
    refine HF.out.mono ?_
    rintro e w1 ⟨hb, rfl⟩
    have hs := hb.size
    have HB := hide hb
    clear hb
    go_wp2_with fail
    go_ret
    exact ⟨rfl, F, (HD.out.below HB.out).alloc _, D.Mv.of_below (HB.out.alloc hs _)⟩
  | false =>
    by_cases hf : Wl.Fits d.S.length
    case neg =>
      rw [fmt_no hd hf]
      have HF := hide (find_no h hd hf)
      clear h
      unfold zeroLog at HF
      go_enter Try.func15, Try.ntmps15
      go_wp2_with fail
      refine HF.out.mono ?_
      rintro e w1 ⟨hb, rfl⟩
      have hs := hb.size
      have HB := hide hb
      clear hb
      go_wp2_with fail
      go_ret
      exact ⟨rfl, F, (HD.out.below HB.out).alloc _, D.Mv.of_below (HB.out.alloc hs _)⟩
    have HF := hide (find_any h hd hf)
    have HE := hide (fmt_yes hd hf)
    generalize Wl.fmt d = R at *
    clear h hf
    go_enter Try.func15, Try.ntmps15
    go_wp2_with fail
    refine HF.out.mono ?_
    rintro e w1 ⟨hb, hL⟩
    have hs := hb.size
    have HB := hide hb
    clear hb HF
    cases hx : Wl.find d.S with
    | none =>
      rw [hx] at hL HE
      simp only at hL HE
      subst hL
      clear hx
      unfold zeroLog
      go_wp2_with fail
      refine (writeHead_any ((HD.out.below HB.out).alloc _) ⟨1, 0, 0, 0⟩ (by decide) (by decide) (by decide) (by decide) hR).mono ?_
      rintro e w2 ⟨rfl, F', hD', hM'⟩
      have HD' := hide hD'
      have HM' := hide ((D.Mv.of_below (F := F) (HB.out.alloc hs _)).trans hM')
      clear hD' hM'
      go_wp2_with fail
      go_ret
      rw [HE.out]
      exact ⟨rfl, F', HD'.out, HM'.out⟩
    | some L =>
      rw [hx] at hL HE
      obtain ⟨⟨num, half, sn, lg⟩, ss, l⟩ := L
      simp only at HE
      obtain ⟨ad, cp, rfl, hO⟩ := hL
      clear hx hO
      simp only [logC]
      go_wp2_with fail
      go_ret
      rw [HE.out]
      exact ⟨rfl, F, (HD.out.below HB.out).alloc _, D.Mv.of_below (HB.out.alloc hs _)⟩
def openNo (k : Int) : Ending := .returned (.tuple #[.pointer none, .string ⟨#[]⟩, .slice none 0 0, .int .i64 k])
def OPost (w : World) (b : Nat) (d : D.DS) (e : Ending) (w' : World) : Prop :=
  Below w.heap.size w w' ∧ if d.dead = true then e = openNo 2 else if ¬ Wl.Fits d.S.length then e = openNo 91 else match Wl.find d.S with
    | none => e = openNo 90
    | some L => ∃ (W : Nat) (ad : Option Addr) (cp : Nat), e = .returned (.tuple #[.pointer (some ⟨W, 0, none⟩), .string L.s, .slice ad L.l.length cp, .int .i64 0]) ∧ w.heap.size ≤ W ∧ Wm w' W b ⟨L.h, L.l.length, false⟩ ∧ w'.ownsRow w.heap.size 9 1 (.slice ad L.l.length cp) L.l.length (L.l.map .string) ∧ (Value.slice ad L.l.length cp).ownBlock ≠ some W
set_option maxHeartbeats 1000000 in
set_option maxRecDepth 8000 in
theorem open_any {base : Nat} {w : World} {b : Nat} {F : Nat → Prop} {d : D.DS} (h : D.Dk base w b F d) :
    Calls Try.prog 16 #[.pointer (some ⟨b, 0, none⟩)] w (OPost w b d) := by
  cases hd : d.dead with
  | true =>
    have HF := hide (find_dead h hd)
    have HP : Hid (∀ W, Below w.heap.size w W → OPost w b d (openNo 2) W) := hide fun W hW => ⟨hW, by rw [if_pos hd]⟩
    generalize OPost w b d = PP at *
    clear h
    unfold zeroLog at HF
    go_enter Try.func16, Try.ntmps16
    go_wp2_with fail
    refine HF.out.mono ?_
    rintro e w1 ⟨hb, rfl⟩
    have hs := hb.size
    have HB := hide hb
    clear hb
    go_wp2_with fail
    exact bodyPost_ret (v := .tuple #[.pointer none, .string ⟨#[]⟩, .slice none 0 0, .int .i64 2]) (by simp [results, Try.results16, go_sem]) rfl (HP.out _ (HB.out.alloc hs _))
  | false =>
    by_cases hf : Wl.Fits d.S.length
    case neg =>
      have HF := hide (find_no h hd hf)
      have HP : Hid (∀ W, Below w.heap.size w W → OPost w b d (openNo 91) W) := hide fun W hW => ⟨hW, by rw [if_neg (by simp [hd]), if_pos hf]⟩
      generalize OPost w b d = PP at *
      clear h
      unfold zeroLog at HF
      go_enter Try.func16, Try.ntmps16
      go_wp2_with fail
      refine HF.out.mono ?_
      rintro e w1 ⟨hb, rfl⟩
      have hs := hb.size
      have HB := hide hb
      clear hb
      go_wp2_with fail
      exact bodyPost_ret (v := .tuple #[.pointer none, .string ⟨#[]⟩, .slice none 0 0, .int .i64 91]) (by simp [results, Try.results16, go_sem]) rfl (HP.out _ (HB.out.alloc hs _))
    have HF := hide (find_any h hd hf)
    have HE : Hid (∀ e W, OPost w b d e W ↔ Below w.heap.size w W ∧ match Wl.find d.S with
      | none => e = openNo 90
      | some L => ∃ (X : Nat) (ad : Option Addr) (cp : Nat), e = .returned (.tuple #[.pointer (some ⟨X, 0, none⟩), .string L.s, .slice ad L.l.length cp, .int .i64 0]) ∧ w.heap.size ≤ X ∧ Wm W X b ⟨L.h, L.l.length, false⟩ ∧ W.ownsRow w.heap.size 9 1 (.slice ad L.l.length cp) L.l.length (L.l.map .string) ∧ (Value.slice ad L.l.length cp).ownBlock ≠ some X) := hide fun e W => by
        unfold OPost; rw [if_neg (by simp [hd]), if_neg (by simpa using hf)]
    generalize OPost w b d = PP at *
    clear h hf
    go_enter Try.func16, Try.ntmps16
    go_wp2_with fail
    refine HF.out.mono ?_
    rintro e w1 ⟨hb, hL⟩
    have hs := hb.size
    have HB := hide hb
    clear hb HF
    cases hx : Wl.find d.S with
    | none =>
      rw [hx] at hL HE
      simp only at hL HE
      subst hL
      clear hx
      unfold zeroLog
      go_wp2_with fail
      exact bodyPost_ret (v := .tuple #[.pointer none, .string ⟨#[]⟩, .slice none 0 0, .int .i64 90]) (by simp [results, Try.results16, go_sem]) rfl ((HE.out _ _).mpr ⟨HB.out.alloc hs _, rfl⟩)
    | some L =>
      rw [hx] at hL HE
      obtain ⟨⟨num, half, sn, lg⟩, ss, l⟩ := L
      simp only at HE
      obtain ⟨ad, cp, rfl, hO⟩ := hL
      have HO := hide hO
      clear hx hO
      simp only [logC]
      obtain ⟨Y, hY⟩ : ∃ Y, w1.heap.size = Y := ⟨_, rfl⟩
      have hst : (w1.alloc (.cells #[.int .u64 (num : Int), .int .u8 (half : Int), .int .i64 (sn : Int), .int .i64 (lg : Int), .string ss, .slice ad l.length cp] 63)).heap[Y]? = some (.cells #[.int .u64 (num : Int), .int .u8 (half : Int), .int .i64 (sn : Int), .int .i64 (lg : Int), .string ss, .slice ad l.length cp] 63 (0, 0)) := by rw [← hY]; exact heap_alloc_new w1 _
      go_wp2_with fail
      refine wp_region_held_drew (S := fun w' => w'.heap[Y]? = some (.cells #[.int .u64 (num : Int), .int .u8 (half : Int), .int .i64 (sn : Int), .int .i64 (lg : Int), .string ss, .slice ad l.length cp] 63 (0, 0))) (by kernel_rfl) (hst) (fun hHeld => ?_)
      refine wpAnyH_take (i := 0) (v := .pointer (some ⟨b, 0, none⟩)) rfl (by kernel_rfl) (by kernel_rfl) (by kernel_rfl) (fun _ _ _ h => h) (Or.inl ⟨by rfl, fun w1 hSw => by clear hHeld; obtain ⟨c0, c1, c2, c3, c4, c5, cz⟩ := log_cells hSw; go_simp⟩) hHeld ?_
      simp only [Act.put, List.setIfInBounds_toArray]
      refine wpAnyH_take (i := 1) (v := .pointer (some ⟨Y, 0, none⟩)) rfl (by kernel_rfl) (by kernel_rfl) (by kernel_rfl) (fun _ _ _ h => h) (Or.inl ⟨by rfl, fun w1 hSw => by clear hHeld; obtain ⟨c0, c1, c2, c3, c4, c5, cz⟩ := log_cells hSw; go_simp⟩) hHeld ?_
      try simp only [Act.put]
      refine wpAnyH_take (i := 2) (v := .agg #[.int .u64 (num : Int), .int .u8 (half : Int), .int .i64 (sn : Int), .int .i64 (lg : Int)]) rfl (by kernel_rfl) (by kernel_rfl) (by kernel_rfl) (fun _ _ _ h => h) (Or.inl ⟨by rfl, fun w1 hSw => by clear hHeld; obtain ⟨c0, c1, c2, c3, c4, c5, cz⟩ := log_cells hSw; go_simp⟩) hHeld ?_
      try simp only [Act.put]
      refine wpAnyH_take (i := 3) (v := .pointer (some ⟨Y, 5, none⟩)) rfl (by kernel_rfl) (by kernel_rfl) (by kernel_rfl) (fun _ _ _ h => h) (Or.inl ⟨by rfl, fun w1 hSw => by clear hHeld; obtain ⟨c0, c1, c2, c3, c4, c5, cz⟩ := log_cells hSw; go_simp⟩) hHeld ?_
      try simp only [Act.put]
      refine wpAnyH_take (i := 4) (v := .slice ad l.length cp) rfl (by kernel_rfl) (by kernel_rfl) (by kernel_rfl) (fun _ _ _ h => h) (Or.inl ⟨by rfl, fun w1 hSw => by clear hHeld; obtain ⟨c0, c1, c2, c3, c4, c5, cz⟩ := log_cells hSw; go_simp⟩) hHeld ?_
      try simp only [Act.put]
      refine wpAnyH_take (i := 5) (v := .int .i64 (l.length : Int)) rfl (by kernel_rfl) (by kernel_rfl) (by kernel_rfl) (fun _ _ _ h => h) (Or.inl ⟨by rfl, fun w1 hSw => by clear hHeld; obtain ⟨c0, c1, c2, c3, c4, c5, cz⟩ := log_cells hSw; go_simp⟩) hHeld ?_
      try simp only [Act.put]
      refine wpAnyH_take (i := 6) (v := .agg #[.pointer (some ⟨b, 0, none⟩), .int .u64 (num : Int), .int .u8 (half : Int), .int .i64 (sn : Int), .int .i64 (lg : Int), .int .i64 (l.length : Int), .bool false]) rfl (by kernel_rfl) (by kernel_rfl) (by kernel_rfl) (fun _ _ _ h => h) (Or.inl ⟨by rfl, fun w1 hSw => by clear hHeld; obtain ⟨c0, c1, c2, c3, c4, c5, cz⟩ := log_cells hSw; go_simp⟩) hHeld ?_
      try simp only [Act.put]
      refine wpAnyH_take (i := 8) (v := .pointer (some ⟨Y, 4, none⟩)) rfl (by kernel_rfl) (by kernel_rfl) (by kernel_rfl) (fun _ _ _ h => h) (Or.inl ⟨by rfl, fun w1 hSw => by clear hHeld; obtain ⟨c0, c1, c2, c3, c4, c5, cz⟩ := log_cells hSw; go_simp⟩) hHeld ?_
      try simp only [Act.put]
      refine wpAnyH_take (i := 9) (v := .string ss) rfl (by kernel_rfl) (by kernel_rfl) (by kernel_rfl) (fun _ _ _ h => h) (Or.inl ⟨by rfl, fun w1 hSw => by clear hHeld; obtain ⟨c0, c1, c2, c3, c4, c5, cz⟩ := log_cells hSw; go_simp⟩) hHeld ?_
      try simp only [Act.put]
      refine wpAnyH_take (i := 10) (v := .pointer (some ⟨Y, 5, none⟩)) rfl (by kernel_rfl) (by kernel_rfl) (by kernel_rfl) (fun _ _ _ h => h) (Or.inl ⟨by rfl, fun w1 hSw => by clear hHeld; obtain ⟨c0, c1, c2, c3, c4, c5, cz⟩ := log_cells hSw; go_simp⟩) hHeld ?_
      try simp only [Act.put]
      refine wpAnyH_take (i := 11) (v := .slice ad l.length cp) rfl (by kernel_rfl) (by kernel_rfl) (by kernel_rfl) (fun _ _ _ h => h) (Or.inl ⟨by rfl, fun w1 hSw => by clear hHeld; obtain ⟨c0, c1, c2, c3, c4, c5, cz⟩ := log_cells hSw; go_simp⟩) hHeld ?_
      try simp only [Act.put]
      refine wpAnyH_ready (rs := [7]) (by kernel_rfl) (by simp) ?_
      refine AllReadyH.cons rfl (fun K hK => ?_) AllReadyH.nil
      go_simp
      refine hK.out _ _ (box_al hHeld _) (fun hHeld => ?_)
      clear hK K
      refine wpAnyH_ready (rs := [12]) (by kernel_rfl) (by simp) ?_
      refine AllReadyH.cons rfl (fun K hK => ?_) AllReadyH.nil
      go_simp
      refine hK.out _ _ (hHeld) (fun hHeld => ?_)
      clear hK K
      refine wpAnyH_ready (rs := [13]) (by kernel_rfl) (by simp) ?_
      refine AllReadyH.cons rfl (fun K hK => ?_) AllReadyH.nil
      go_simp
      refine hK.out _ _ (hHeld) (fun hHeld => ?_)
      clear hK K
      refine wpAnyH_ready (rs := [14]) (by kernel_rfl) (by simp) ?_
      refine AllReadyH.cons rfl (fun K hK => ?_) AllReadyH.nil
      go_simp
      refine hK.out _ _ (hHeld) (fun hHeld => ?_)
      clear hK K
      refine wpAnyH_ready (rs := [15]) (by kernel_rfl) (by simp) ?_
      refine AllReadyH.cons rfl (fun K hK => ?_) AllReadyH.nil
      go_simp
      refine hK.out _ _ (hHeld) (fun hHeld => ?_)
      clear hK K
      refine wpAnyH_done (by kernel_rfl) ?_ _
      clear hHeld
      go_wp2_with fail
      have hdb : Below w.heap.size w (w1.alloc (.cells #[.int .u64 (num : Int), .int .u8 (half : Int), .int .i64 (sn : Int), .int .i64 (lg : Int), .string ss, .slice ad l.length cp] 63)).drew := (HB.out.alloc hs _).trans ⟨rfl, rfl, rfl, Nat.le_refl _, fun _ _ => rfl⟩
      have hsz : (w1.alloc (.cells #[.int .u64 (num : Int), .int .u8 (half : Int), .int .i64 (sn : Int), .int .i64 (lg : Int), .string ss, .slice ad l.length cp] 63)).drew.heap.size = Y + 1 := by show (w1.alloc _).heap.size = _; rw [World.size_alloc, hY]
      refine bodyPost_ret (v := .tuple #[.pointer (some ⟨Y + 1, 0, none⟩), .string ss, .slice ad l.length cp, .int .i64 0]) (by simp [results, Try.results16, go_sem]) rfl ((HE.out _ _).mpr ⟨hdb.alloc (by rw [hsz]; omega) _, Y + 1, ad, cp, rfl, by omega, ?_, ?_, ?_⟩)
      · rw [← hsz]; exact heap_alloc_new _ _
      · refine D.own_keep HO.out fun k hk => ?_
        have := (own_lo HO.out hk).2
        exact (Below.heap_alloc _ _ _ (by rw [World.size_alloc]; omega)).trans (Below.heap_alloc _ _ _ this)
      · intro h; have := (own_lo HO.out h).2; omega
end Go.Proofs.Yteiickpokabmoab
