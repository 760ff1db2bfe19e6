import Derived.Test.YtojghjgbnnkldaaMgAM

section
namespace Go.Proofs.Ytojghjgbnnkldaa
open Go.RowKit Go.Shelf
open Wl (Hd WS Log)

namespace Wl
def h1 : Hd := ⟨1, 0, 0, 0⟩
def fmt (d : D.DS) : Int × D.DS := if d.dead = true then (2, d) else if ¬ Fits d.S.length then (91, d) else match find d.S with
  | some _ => (95, d)
  | none => d.write 1 (headB h1)
end Wl
theorem fmt_dead {d : D.DS} (h : d.dead = true) : Wl.fmt d = (2, d) := if_pos h
theorem fmt_no {d : D.DS} (h : d.dead = false) (hf : ¬ Wl.Fits d.S.length) : Wl.fmt d = (91, d) := by unfold Wl.fmt; rw [if_neg (by simp [h]), if_pos hf]
theorem fmt_yes {d : D.DS} (h : d.dead = false) (hf : Wl.Fits d.S.length) : Wl.fmt d = match Wl.find d.S with
  | some _ => (95, d)
  | none => d.write 1 (Wl.headB Wl.h1) := by unfold Wl.fmt; rw [if_neg (by simp [h]), if_neg (by simpa using hf)]
/-- a log's block -/
def Wm (w : World) (W b : Nat) (ws : WS) : Prop := w.heap[W]? = some (.cells #[.pointer (some ⟨b, 0, none⟩), .int .u64 (ws.h.num : Int), .int .u8 (ws.h.half : Int), .int .i64 (ws.h.sn : Int), .int .i64 (ws.h.lg : Int), .int .i64 (ws.rc : Int), .bool ws.gone] 72 (0, 0))
set_option maxHeartbeats 1000000 in
set_option maxRecDepth 8000 in
theorem format_any {base : Nat} {w : World} {b : Nat} {F : Nat → Prop} {d : D.DS} (h : D.Dk base w b F d) (hR : (d.R.length + 1) * 24 ≤ 140737488355328) :
    Calls Try.prog 9 #[.pointer (some ⟨b, 0, none⟩)] w fun e w' => e = .returned (.int .i64 (Wl.fmt d).1) ∧ ∃ F', D.Dk base w' b F' (Wl.fmt d).2 ∧ D.Mv F F' w w' := by
  have HD := hide h
  cases hd : d.dead with
  | true =>
    rw [fmt_dead hd]
    have HF := hide (find_dead h hd)
    clear h
    unfold zeroLog at HF
    go_enter Try.func9, Try.ntmps9
    go_wp2_with fail
    refine HF.out.mono ?_
    rintro e w1 ⟨hb, rfl⟩
    have hs := hb.size
    have HB := hide hb
    clear hb
    go_wp2_with fail
    go_ret
    exact ⟨rfl, F, (HD.out.below HB.out).alloc _, D.Mv.of_below (HB.out.alloc hs _)⟩
  | false =>
    by_cases hf : Wl.Fits d.S.length
    case neg =>
      rw [fmt_no hd hf]
      have HF := hide (find_no h hd hf)
      clear h
      unfold zeroLog at HF
      go_enter Try.func9, Try.ntmps9
      go_wp2_with fail
      refine HF.out.mono ?_
      rintro e w1 ⟨hb, rfl⟩
      have hs := hb.size
      have HB := hide hb
      clear hb
      go_wp2_with fail
      go_ret
      exact ⟨rfl, F, (HD.out.below HB.out).alloc _, D.Mv.of_below (HB.out.alloc hs _)⟩
    have HF := hide (find_any h hd hf)
    have HE := hide (fmt_yes hd hf)
    generalize Wl.fmt d = R at *
    clear h hf
    go_enter Try.func9, Try.ntmps9
    go_wp2_with fail
    refine HF.out.mono ?_
    rintro e w1 ⟨hb, hL⟩
    have hs := hb.size
    have HB := hide hb
    clear hb HF
    cases hx : Wl.find d.S with
    | none =>
      rw [hx] at hL HE
      simp only at hL HE
      subst hL
      clear hx
      unfold zeroLog
      go_wp2_with fail
      refine (writeHead_any ((HD.out.below HB.out).alloc _) ⟨1, 0, 0, 0⟩ (by decide) (by decide) (by decide) (by decide) hR).mono ?_
      rintro e w2 ⟨rfl, F', hD', hM'⟩
      have HD' := hide hD'
      have HM' := hide ((D.Mv.of_below (F := F) (HB.out.alloc hs _)).trans hM')
      clear hD' hM'
      go_wp2_with fail
      go_ret
      rw [HE.out]
      exact ⟨rfl, F', HD'.out, HM'.out⟩
    | some L =>
      rw [hx] at hL HE
      obtain ⟨⟨num, half, sn, lg⟩, ss, l⟩ := L
      simp only at HE
      obtain ⟨ad, cp, rfl, hO⟩ := hL
      clear hx hO
      simp only [logC]
      go_wp2_with fail
      go_ret
      rw [HE.out]
      exact ⟨rfl, F, (HD.out.below HB.out).alloc _, D.Mv.of_below (HB.out.alloc hs _)⟩
def openNo (k : Int) : Ending := .returned (.tuple #[.pointer none, .string ⟨#[]⟩, .slice none 0 0, .int .i64 k])
def OPost (w : World) (b : Nat) (d : D.DS) (e : Ending) (w' : World) : Prop :=
  Below w.heap.size w w' ∧ if d.dead = true then e = openNo 2 else if ¬ Wl.Fits d.S.length then e = openNo 91 else match Wl.find d.S with
    | none => e = openNo 90
    | some L => ∃ (W : Nat) (ad : Option Addr) (cp : Nat), e = .returned (.tuple #[.pointer (some ⟨W, 0, none⟩), .string L.s, .slice ad L.l.length cp, .int .i64 0]) ∧ w.heap.size ≤ W ∧ Wm w' W b ⟨L.h, L.l.length, false⟩ ∧ w'.ownsRow w.heap.size 9 1 (.slice ad L.l.length cp) L.l.length (L.l.map .string) ∧ (Value.slice ad L.l.length cp).ownBlock ≠ some W
set_option maxHeartbeats 1000000 in
set_option maxRecDepth 8000 in
theorem open_any {base : Nat} {w : World} {b : Nat} {F : Nat → Prop} {d : D.DS} (h : D.Dk base w b F d) :
    Calls Try.prog 15 #[.pointer (some ⟨b, 0, none⟩)] w (OPost w b d) := by
  cases hd : d.dead with
  | true =>
    have HF := hide (find_dead h hd)
    have HP : Hid (∀ W, Below w.heap.size w W → OPost w b d (openNo 2) W) := hide fun W hW => ⟨hW, by rw [if_pos hd]⟩
    generalize OPost w b d = PP at *
    clear h
    unfold zeroLog at HF
    go_enter Try.func15, Try.ntmps15
    go_wp2_with fail
    refine HF.out.mono ?_
    rintro e w1 ⟨hb, rfl⟩
    have hs := hb.size
    have HB := hide hb
    clear hb
    go_wp2_with fail
    exact bodyPost_ret (v := .tuple #[.pointer none, .string ⟨#[]⟩, .slice none 0 0, .int .i64 2]) (by simp [results, Try.results15, go_sem]) rfl (HP.out _ (HB.out.alloc hs _))
  | false =>
    by_cases hf : Wl.Fits d.S.length
    case neg =>
      have HF := hide (find_no h hd hf)
      have HP : Hid (∀ W, Below w.heap.size w W → OPost w b d (openNo 91) W) := hide fun W hW => ⟨hW, by rw [if_neg (by simp [hd]), if_pos hf]⟩
      generalize OPost w b d = PP at *
      clear h
      unfold zeroLog at HF
      go_enter Try.func15, Try.ntmps15
      go_wp2_with fail
      refine HF.out.mono ?_
      rintro e w1 ⟨hb, rfl⟩
      have hs := hb.size
      have HB := hide hb
      clear hb
      go_wp2_with fail
      exact bodyPost_ret (v := .tuple #[.pointer none, .string ⟨#[]⟩, .slice none 0 0, .int .i64 91]) (by simp [results, Try.results15, go_sem]) rfl (HP.out _ (HB.out.alloc hs _))
    have HF := hide (find_any h hd hf)
    have HE : Hid (∀ e W, OPost w b d e W ↔ Below w.heap.size w W ∧ match Wl.find d.S with
      | none => e = openNo 90
      | some L => ∃ (X : Nat) (ad : Option Addr) (cp : Nat), e = .returned (.tuple #[.pointer (some ⟨X, 0, none⟩), .string L.s, .slice ad L.l.length cp, .int .i64 0]) ∧ w.heap.size ≤ X ∧ Wm W X b ⟨L.h, L.l.length, false⟩ ∧ W.ownsRow w.heap.size 9 1 (.slice ad L.l.length cp) L.l.length (L.l.map .string) ∧ (Value.slice ad L.l.length cp).ownBlock ≠ some X) := hide fun e W => by
        unfold OPost; rw [if_neg (by simp [hd]), if_neg (by simpa using hf)]
    generalize OPost w b d = PP at *
    clear h hf
    go_enter Try.func15, Try.ntmps15
    go_wp2_with fail
    refine HF.out.mono ?_
    rintro e w1 ⟨hb, hL⟩
    have hs := hb.size
    have HB := hide hb
    clear hb HF
    cases hx : Wl.find d.S with
    | none =>
      rw [hx] at hL HE
      simp only at hL HE
      subst hL
      clear hx
      unfold zeroLog
      go_wp2_with fail
      exact bodyPost_ret (v := .tuple #[.pointer none, .string ⟨#[]⟩, .slice none 0 0, .int .i64 90]) (by simp [results, Try.results15, go_sem]) rfl ((HE.out _ _).mpr ⟨HB.out.alloc hs _, rfl⟩)
    | some L =>
      rw [hx] at hL HE
      obtain ⟨⟨num, half, sn, lg⟩, ss, l⟩ := L
      simp only at HE
      obtain ⟨ad, cp, rfl, hO⟩ := hL
      have HO := hide hO
      clear hx hO
      simp only [logC]
      obtain ⟨Y, hY⟩ : ∃ Y, w1.heap.size = Y := ⟨_, rfl⟩
      have hst : (w1.alloc (.cells #[.int .u64 (num : Int), .int .u8 (half : Int), .int .i64 (sn : Int), .int .i64 (lg : Int), .string ss, .slice ad l.length cp] 60)).heap[Y]? = some (.cells #[.int .u64 (num : Int), .int .u8 (half : Int), .int .i64 (sn : Int), .int .i64 (lg : Int), .string ss, .slice ad l.length cp] 60 (0, 0)) := by rw [← hY]; exact heap_alloc_new w1 _
      go_wp2_with fail
      refine wp_region_held_drew (S := fun w' => w'.heap[Y]? = some (.cells #[.int .u64 (num : Int), .int .u8 (half : Int), .int .i64 (sn : Int), .int .i64 (lg : Int), .string ss, .slice ad l.length cp] 60 (0, 0))) (by kernel_rfl) (hst) (fun hHeld => ?_)
      refine wpAnyH_take (i := 0) (v := .pointer (some ⟨b, 0, none⟩)) rfl (by kernel_rfl) (by kernel_rfl) (by kernel_rfl) (fun _ _ _ h => h) (Or.inl ⟨by rfl, fun w1 hSw => by clear hHeld; obtain ⟨c0, c1, c2, c3, c4, c5, cz⟩ := log_cells hSw; go_simp⟩) hHeld ?_
      simp only [Act.put, List.setIfInBounds_toArray]
      refine wpAnyH_take (i := 1) (v := .pointer (some ⟨Y, 0, none⟩)) rfl (by kernel_rfl) (by kernel_rfl) (by kernel_rfl) (fun _ _ _ h => h) (Or.inl ⟨by rfl, fun w1 hSw => by clear hHeld; obtain ⟨c0, c1, c2, c3, c4, c5, cz⟩ := log_cells hSw; go_simp⟩) hHeld ?_
      try simp only [Act.put]
      refine wpAnyH_take (i := 2) (v := .agg #[.int .u64 (num : Int), .int .u8 (half : Int), .int .i64 (sn : Int), .int .i64 (lg : Int)]) rfl (by kernel_rfl) (by kernel_rfl) (by kernel_rfl) (fun _ _ _ h => h) (Or.inl ⟨by rfl, fun w1 hSw => by clear hHeld; obtain ⟨c0, c1, c2, c3, c4, c5, cz⟩ := log_cells hSw; go_simp⟩) hHeld ?_
      try simp only [Act.put]
      refine wpAnyH_take (i := 3) (v := .pointer (some ⟨Y, 5, none⟩)) rfl (by kernel_rfl) (by kernel_rfl) (by kernel_rfl) (fun _ _ _ h => h) (Or.inl ⟨by rfl, fun w1 hSw => by clear hHeld; obtain ⟨c0, c1, c2, c3, c4, c5, cz⟩ := log_cells hSw; go_simp⟩) hHeld ?_
      try simp only [Act.put]
      refine wpAnyH_take (i := 4) (v := .slice ad l.length cp) rfl (by kernel_rfl) (by kernel_rfl) (by kernel_rfl) (fun _ _ _ h => h) (Or.inl ⟨by rfl, fun w1 hSw => by clear hHeld; obtain ⟨c0, c1, c2, c3, c4, c5, cz⟩ := log_cells hSw; go_simp⟩) hHeld ?_
      try simp only [Act.put]
      refine wpAnyH_take (i := 5) (v := .int .i64 (l.length : Int)) rfl (by kernel_rfl) (by kernel_rfl) (by kernel_rfl) (fun _ _ _ h => h) (Or.inl ⟨by rfl, fun w1 hSw => by clear hHeld; obtain ⟨c0, c1, c2, c3, c4, c5, cz⟩ := log_cells hSw; go_simp⟩) hHeld ?_
      try simp only [Act.put]
      refine wpAnyH_take (i := 6) (v := .agg #[.pointer (some ⟨b, 0, none⟩), .int .u64 (num : Int), .int .u8 (half : Int), .int .i64 (sn : Int), .int .i64 (lg : Int), .int .i64 (l.length : Int), .bool false]) rfl (by kernel_rfl) (by kernel_rfl) (by kernel_rfl) (fun _ _ _ h => h) (Or.inl ⟨by rfl, fun w1 hSw => by clear hHeld; obtain ⟨c0, c1, c2, c3, c4, c5, cz⟩ := log_cells hSw; go_simp⟩) hHeld ?_
      try simp only [Act.put]
      refine wpAnyH_take (i := 8) (v := .pointer (some ⟨Y, 4, none⟩)) rfl (by kernel_rfl) (by kernel_rfl) (by kernel_rfl) (fun _ _ _ h => h) (Or.inl ⟨by rfl, fun w1 hSw => by clear hHeld; obtain ⟨c0, c1, c2, c3, c4, c5, cz⟩ := log_cells hSw; go_simp⟩) hHeld ?_
      try simp only [Act.put]
      refine wpAnyH_take (i := 9) (v := .string ss) rfl (by kernel_rfl) (by kernel_rfl) (by kernel_rfl) (fun _ _ _ h => h) (Or.inl ⟨by rfl, fun w1 hSw => by clear hHeld; obtain ⟨c0, c1, c2, c3, c4, c5, cz⟩ := log_cells hSw; go_simp⟩) hHeld ?_
      try simp only [Act.put]
      refine wpAnyH_take (i := 10) (v := .pointer (some ⟨Y, 5, none⟩)) rfl (by kernel_rfl) (by kernel_rfl) (by kernel_rfl) (fun _ _ _ h => h) (Or.inl ⟨by rfl, fun w1 hSw => by clear hHeld; obtain ⟨c0, c1, c2, c3, c4, c5, cz⟩ := log_cells hSw; go_simp⟩) hHeld ?_
      try simp only [Act.put]
      refine wpAnyH_take (i := 11) (v := .slice ad l.length cp) rfl (by kernel_rfl) (by kernel_rfl) (by kernel_rfl) (fun _ _ _ h => h) (Or.inl ⟨by rfl, fun w1 hSw => by clear hHeld; obtain ⟨c0, c1, c2, c3, c4, c5, cz⟩ := log_cells hSw; go_simp⟩) hHeld ?_
      try simp only [Act.put]
      refine wpAnyH_ready (rs := [7]) (by kernel_rfl) (by simp) ?_
      refine AllReadyH.cons rfl (fun K hK => ?_) AllReadyH.nil
      go_simp
      refine hK.out _ _ (box_al hHeld _) (fun hHeld => ?_)
      clear hK K
      refine wpAnyH_ready (rs := [12]) (by kernel_rfl) (by simp) ?_
      refine AllReadyH.cons rfl (fun K hK => ?_) AllReadyH.nil
      go_simp
      refine hK.out _ _ (hHeld) (fun hHeld => ?_)
      clear hK K
      refine wpAnyH_ready (rs := [13]) (by kernel_rfl) (by simp) ?_
      refine AllReadyH.cons rfl (fun K hK => ?_) AllReadyH.nil
      go_simp
      refine hK.out _ _ (hHeld) (fun hHeld => ?_)
      clear hK K
      refine wpAnyH_ready (rs := [14]) (by kernel_rfl) (by simp) ?_
      refine AllReadyH.cons rfl (fun K hK => ?_) AllReadyH.nil
      go_simp
      refine hK.out _ _ (hHeld) (fun hHeld => ?_)
      clear hK K
      refine wpAnyH_ready (rs := [15]) (by kernel_rfl) (by simp) ?_
      refine AllReadyH.cons rfl (fun K hK => ?_) AllReadyH.nil
      go_simp
      refine hK.out _ _ (hHeld) (fun hHeld => ?_)
      clear hK K
      refine wpAnyH_done (by kernel_rfl) ?_ _
      clear hHeld
      go_wp2_with fail
      have hdb : Below w.heap.size w (w1.alloc (.cells #[.int .u64 (num : Int), .int .u8 (half : Int), .int .i64 (sn : Int), .int .i64 (lg : Int), .string ss, .slice ad l.length cp] 60)).drew := (HB.out.alloc hs _).trans ⟨rfl, rfl, rfl, Nat.le_refl _, fun _ _ => rfl⟩
      have hsz : (w1.alloc (.cells #[.int .u64 (num : Int), .int .u8 (half : Int), .int .i64 (sn : Int), .int .i64 (lg : Int), .string ss, .slice ad l.length cp] 60)).drew.heap.size = Y + 1 := by show (w1.alloc _).heap.size = _; rw [World.size_alloc, hY]
      refine bodyPost_ret (v := .tuple #[.pointer (some ⟨Y + 1, 0, none⟩), .string ss, .slice ad l.length cp, .int .i64 0]) (by simp [results, Try.results15, go_sem]) rfl ((HE.out _ _).mpr ⟨hdb.alloc (by rw [hsz]; omega) _, Y + 1, ad, cp, rfl, by omega, ?_, ?_, ?_⟩)
      · rw [← hsz]; exact heap_alloc_new _ _
      · refine D.own_keep HO.out fun k hk => ?_
        have := (own_lo HO.out hk).2
        exact (Below.heap_alloc _ _ _ (by rw [World.size_alloc]; omega)).trans (Below.heap_alloc _ _ _ this)
      · intro h; have := (own_lo HO.out h).2; omega
end Go.Proofs.Ytojghjgbnnkldaa
end

section
namespace Go.Proofs.Ytojghjgbnnkldaa
open Go.RowKit Go.Shelf
open Wl (Hd WS Log)

theorem wm_cells {w : World} {X : Nat} {a b c d e f g : Value} {t : TypeId} (h : w.heap[X]? = some (.cells #[a, b, c, d, e, f, g] t (0, 0))) : w.cell? ⟨X, 0, none⟩ = some a ∧ w.cell? ⟨X, 1, none⟩ = some b ∧ w.cell? ⟨X, 2, none⟩ = some c ∧ w.cell? ⟨X, 3, none⟩ = some d ∧ w.cell? ⟨X, 4, none⟩ = some e ∧ w.cell? ⟨X, 5, none⟩ = some f ∧ w.cell? ⟨X, 6, none⟩ = some g ∧ ∀ k, w.frozen? ⟨X, k, none⟩ = false := by
  refine ⟨?_, ?_, ?_, ?_, ?_, ?_, ?_, ?_⟩
  all_goals first | (unfold World.cell?; rw [h]; rfl) | (intro k; unfold World.frozen?; rw [h]; simp)
theorem roomF_succ (left k : Nat) : Wl.roomF left (k + 1) = if (Pk.enc (k + 1)).length + (k + 1) ≤ left then k + 1 else Wl.roomF left k := rfl
set_option maxHeartbeats 1000000 in
set_option maxRecDepth 8000 in
theorem room_any {base : Nat} {w : World} {b W : Nat} {F : Nat → Prop} {d : D.DS} {ws : WS} (h : D.Dk base w b F d) (hw : Wm w W b ws) (ho : Wl.Ok d ws) :
    Calls Try.prog 18 #[.pointer (some ⟨W, 0, none⟩)] w fun e w' => e = .returned (.int .i64 (Wl.room d.S.length ws.h : Int)) ∧ Below w.heap.size w w' := by
  have HD := hide h
  have hu := ho.used
  have h3 := hs_le _ h.ok.s1
  have hhb : Wl.hb d.S.length ≤ 65536 := by unfold Wl.hb; omega
  obtain ⟨⟨num, half, sn, lg⟩, rc, gone⟩ := ws
  have hu2 : sn + lg ≤ Wl.hb d.S.length := hu
  have HUs := hide (fun V => used_any ⟨num, half, sn, lg⟩ (show sn ≤ 4294967296 by omega) (show lg ≤ 4294967296 by omega) V)
  have HRm : Hid (Wl.room d.S.length ⟨num, half, sn, lg⟩ = Wl.roomF (Wl.hb d.S.length - Hd.used ⟨num, half, sn, lg⟩) (min (Wl.hb d.S.length - Hd.used ⟨num, half, sn, lg⟩) 2048)) := hide rfl
  obtain ⟨R, hR⟩ : ∃ R, Wl.room d.S.length ⟨num, half, sn, lg⟩ = R := ⟨_, rfl⟩
  simp only [hR] at HRm ⊢
  have HRr := HRm
  generalize Hd.used ⟨num, half, sn, lg⟩ = U at *
  have hst : w.heap[W]? = some (.cells #[.pointer (some ⟨b, 0, none⟩), .int .u64 (num : Int), .int .u8 (half : Int), .int .i64 (sn : Int), .int .i64 (lg : Int), .int .i64 (rc : Int), .bool gone] 72 (0, 0)) := hw
  have HB0 : Hid (Below w.heap.size w w.drew) := hide ⟨rfl, rfl, rfl, Nat.le_refl _, fun _ _ => rfl⟩
  clear h hw ho hR HRm hu2
  simp only [hdC] at *
  go_enter Try.func18, Try.ntmps18
  go_wp2_with fail
  refine wp_region_held_drew (S := fun w' => w'.heap[W]? = some (.cells #[.pointer (some ⟨b, 0, none⟩), .int .u64 (num : Int), .int .u8 (half : Int), .int .i64 (sn : Int), .int .i64 (lg : Int), .int .i64 (rc : Int), .bool gone] 72 (0, 0))) (by kernel_rfl) (hst) (fun hHeld => ?_)
  refine wpAnyH_take (i := 0) (v := .pointer (some ⟨W, 0, none⟩)) rfl (by kernel_rfl) (by kernel_rfl) (by kernel_rfl) (fun _ _ _ h => h) (Or.inl ⟨by rfl, fun w1 hSw => by clear hHeld; obtain ⟨c0, c1, c2, c3, c4, c5, c6, cz⟩ := wm_cells hSw; go_simp⟩) hHeld ?_
  simp only [Act.put, List.setIfInBounds_toArray]
  refine wpAnyH_take (i := 1) (v := .pointer (some ⟨W, 0, none⟩)) rfl (by kernel_rfl) (by kernel_rfl) (by kernel_rfl) (fun _ _ _ h => h) (Or.inl ⟨by rfl, fun w1 hSw => by clear hHeld; obtain ⟨c0, c1, c2, c3, c4, c5, c6, cz⟩ := wm_cells hSw; go_simp⟩) hHeld ?_
  try simp only [Act.put]
  refine wpAnyH_take (i := 2) (v := .pointer (some ⟨W, 0, none⟩)) rfl (by kernel_rfl) (by kernel_rfl) (by kernel_rfl) (fun _ _ _ h => h) (Or.inl ⟨by rfl, fun w1 hSw => by clear hHeld; obtain ⟨c0, c1, c2, c3, c4, c5, c6, cz⟩ := wm_cells hSw; go_simp⟩) hHeld ?_
  try simp only [Act.put]
  refine wpAnyH_take (i := 3) (v := .pointer (some ⟨b, 0, none⟩)) rfl (by kernel_rfl) (by kernel_rfl) (by kernel_rfl) (fun _ _ _ h => h) (Or.inl ⟨by rfl, fun w1 hSw => by clear hHeld; obtain ⟨c0, c1, c2, c3, c4, c5, c6, cz⟩ := wm_cells hSw; go_simp⟩) hHeld ?_
  try simp only [Act.put]
  refine wpAnyH_take (i := 5) (v := .pointer (some ⟨W, 0, none⟩)) rfl (by kernel_rfl) (by kernel_rfl) (by kernel_rfl) (fun _ _ _ h => h) (Or.inl ⟨by rfl, fun w1 hSw => by clear hHeld; obtain ⟨c0, c1, c2, c3, c4, c5, c6, cz⟩ := wm_cells hSw; go_simp⟩) hHeld ?_
  try simp only [Act.put]
  refine wpAnyH_take (i := 6) (v := .pointer (some ⟨W, 0, none⟩)) rfl (by kernel_rfl) (by kernel_rfl) (by kernel_rfl) (fun _ _ _ h => h) (Or.inl ⟨by rfl, fun w1 hSw => by clear hHeld; obtain ⟨c0, c1, c2, c3, c4, c5, c6, cz⟩ := wm_cells hSw; go_simp⟩) hHeld ?_
  try simp only [Act.put]
  refine wpAnyH_take (i := 7) (v := .pointer (some ⟨W, 1, none⟩)) rfl (by kernel_rfl) (by kernel_rfl) (by kernel_rfl) (fun _ _ _ h => h) (Or.inl ⟨by rfl, fun w1 hSw => by clear hHeld; obtain ⟨c0, c1, c2, c3, c4, c5, c6, cz⟩ := wm_cells hSw; go_simp⟩) hHeld ?_
  try simp only [Act.put]
  refine wpAnyH_take (i := 8) (v := .agg #[.int .u64 (num : Int), .int .u8 (half : Int), .int .i64 (sn : Int), .int .i64 (lg : Int)]) rfl (by kernel_rfl) (by kernel_rfl) (by kernel_rfl) (fun _ _ _ h => h) (Or.inl ⟨by rfl, fun w1 hSw => by clear hHeld; obtain ⟨c0, c1, c2, c3, c4, c5, c6, cz⟩ := wm_cells hSw; go_simp⟩) hHeld ?_
  try simp only [Act.put]
  refine wpAnyH_ready (rs := [4]) (by kernel_rfl) (by simp) ?_
  refine AllReadyH.cons rfl (fun K hK => ?_) AllReadyH.nil
  go_simp
  refine (halfBytes_any (HD.out.below HB0.out)).mono ?_
  rintro e w0a ⟨rfl, rfl⟩
  have HB1 := HB0
  refine hK.out _ _ (hHeld) (fun hHeld => ?_)
  clear hK K
  refine wpAnyH_ready (rs := [9]) (by kernel_rfl) (by simp) ?_
  refine AllReadyH.cons rfl (fun K hK => ?_) AllReadyH.nil
  go_simp
  refine (HUs.out _).mono ?_
  rintro e w1a ⟨rfl, rfl⟩
  have HB2 := hide (HB1.out.alloc HB1.out.size (.cells #[.int .u64 (num : Int), .int .u8 (half : Int), .int .i64 (sn : Int), .int .i64 (lg : Int)] 58))
  refine hK.out _ _ (box_al hHeld _) (fun hHeld => ?_)
  clear hK K
  refine wpAnyH_ready (rs := [10]) (by kernel_rfl) (by simp) ?_
  refine AllReadyH.cons rfl (fun K hK => ?_) AllReadyH.nil
  go_simp
  have HB3 := HB2
  refine hK.out _ _ (hHeld) (fun hHeld => ?_)
  clear hK K
  refine wpAnyH_ready (rs := [11]) (by kernel_rfl) (by simp) ?_
  refine AllReadyH.cons rfl (fun K hK => ?_) AllReadyH.nil
  go_simp
  have HB4 := HB3
  refine hK.out _ _ (hHeld) (fun hHeld => ?_)
  clear hK K
  refine wpAnyH_done (by kernel_rfl) ?_ _
  clear hHeld
  have HBr := HB4
  generalize Wl.hb d.S.length = H at *
  have hsub : (H : Int) - (U : Int) = ((H - U : Nat) : Int) := by omega
  rw [hsub] at *
  generalize hL : H - U = L at *
  have hl1 : L ≤ 65536 := by omega
  have hwr : IntKind.i64.wrap (L : Int) = (L : Int) := by rw [IntKind.wrap_i64]; omega
  simp only [hwr]
  clear hsub hL hu hhb hwr
  generalize hm : min L 2048 = m0 at *
  have hmi : min (L : Int) 2048 = (m0 : Int) := by omega
  have hm1 : m0 ≤ 2048 := by omega
  go_wp2_with fail
  go_loopw [4] (fun s wr => ∃ k : Nat, k ≤ m0 ∧ s = .int .i64 (k : Int) ∧ Hid (R = Wl.roomF L k) ∧ Hid (Below w.heap.size w wr)) (fun s _ => (intOf s).toNat)
  case atStart => exact ⟨m0, Nat.le_refl _, rfl, HRr, HBr⟩
  case round =>
    obtain ⟨k, hk, rfl, HK, HB⟩ := hrel
    by_cases hk0 : 0 < k
    · have hki : 0 < (k : Int) := by omega
      obtain ⟨j, rfl⟩ : ∃ j, k = j + 1 := ⟨k - 1, by omega⟩
      have HFb := hide (frameBytes_any (j + 1) (by omega) wr)
      have hen := Pk.enc_ten (n := j + 1) (by omega)
      have HSu := hide (roomF_succ L j)
      generalize (Pk.enc (j + 1)).length = E at *
      go_wp2_with fail
      refine HFb.out.mono ?_
      rintro e w2 ⟨rfl, hb2⟩
      have HB2 := hide (HB.out.trans (hb2.mono HB.out.size))
      clear hb2 HFb
      by_cases hc : E + (j + 1) ≤ L
      · have hci : ((E + (j + 1) : Nat) : Int) ≤ (L : Int) := by omega
        have b1 : decide (E + (j + 1) ≤ L) = true := decide_eq_true hc
        have HF : Hid (R = j + 1) := hide (by rw [HK.out, HSu.out, if_pos hc])
        clear HK HSu
        go_wp2_with fail
        go_ret
        exact ⟨by rw [HF.out]; rfl, HB2.out⟩
      · have hci : ¬ ((E + (j + 1) : Nat) : Int) ≤ (L : Int) := by omega
        have b1 : decide (E + (j + 1) ≤ L) = false := decide_eq_false hc
        have HF : Hid (R = Wl.roomF L j) := hide (by rw [HK.out, HSu.out, if_neg hc])
        clear HK HSu
        go_wp2_with fail
        go_roundw
        case rel => exact ⟨j, by omega, by simp, HF, HB2⟩
        case measure => simp only [intOf]; omega
    · have hki : ¬ 0 < (k : Int) := by omega
      obtain rfl : k = 0 := by omega
      have HF : Hid (R = 0) := hide HK.out
      clear HK
      go_wp2_with fail
      go_ret
      exact ⟨by rw [HF.out]; rfl, HB.out⟩
end Go.Proofs.Ytojghjgbnnkldaa
end

section
namespace Go.Proofs.Ytojghjgbnnkldaa
open Go.RowKit Go.Shelf
open Wl (Hd WS Log)

theorem wsec_R (l : List ByteArray) : ∀ (d : D.DS) (k : Nat), (Wl.wsec d k l).2.R.length ≤ d.R.length + l.length := by
  induction l with
  | nil => intro d k; exact Nat.le_refl _
  | cons s l ih =>
    intro d k
    rw [wsec_cons]
    have h1 := write_R d k s
    split
    · rw [List.length_cons]; omega
    · have := ih (d.write k s).2 (k + 1)
      rw [List.length_cons]; omega
set_option maxHeartbeats 400000 in
set_option maxRecDepth 8000 in
theorem lay_any {base : Nat} {w : World} {b W g first m : Nat} {F : Nat → Prop} {d : D.DS} {ws : WS} {l : List UInt8} (h : D.Dk base w b F d) (hw : Wm w W b ws) (hFW : ¬ F W) (h0 : ws.h.num < 18446744073709551616) (h1 : ws.h.half < 256) (h2 : ws.h.sn < 4294967296) (h3 : ws.h.lg < 4294967296)
    (hl : l.length = m * 128) (hb : Bf w g l) (hg : ¬ F g) (hm : m ≤ 1000) (hf : first ≤ 100000) (hR : (d.R.length + m + 1) * 24 ≤ 140737488355328) :
    Calls Try.prog 56 #[.pointer (some ⟨W, 0, none⟩), .int .i64 (first : Int), .slice (some ⟨g, 0, none⟩) (m * 128) (m * 128)] w fun e w' => e = .returned (.int .i64 (Wl.layW d first (secs l m) ws.h).1) ∧ ∃ F', D.Dk base w' b F' (Wl.layW d first (secs l m) ws.h).2 ∧ D.Mv F F' w w' := by
  have HWS := hide (writeSectors_any h hl hb hg hm hf (by omega))
  have HRl : Hid ((Wl.wsec d first (secs l m)).2.R.length ≤ d.R.length + m) := hide (by have := wsec_R (secs l m) d first; rw [show (secs l m).length = m by simp [secs]] at this; exact this)
  obtain ⟨R, hRR⟩ : ∃ R, Wl.layW d first (secs l m) ws.h = R := ⟨_, rfl⟩
  obtain ⟨xe, xd, hX⟩ : ∃ xe xd, Wl.wsec d first (secs l m) = (xe, xd) := ⟨_, _, rfl⟩
  have HL0 : Hid (xe = 0 → R = xd.write ((ws.h.num % 2 : Nat) : Int) (Wl.headB ws.h)) := hide fun h => by rw [← hRR]; unfold Wl.layW; rw [hX, if_neg (by simp [h])]
  have HL1 : Hid (xe ≠ 0 → R = (xe, xd)) := hide fun h => by rw [← hRR]; unfold Wl.layW; rw [hX, if_pos h]
  rw [hRR]
  rw [hX] at HWS HRl
  have HRl2 : Hid (xd.R.length ≤ d.R.length + m) := HRl
  have hR2 : (xd.R.length + 1) * 24 ≤ 140737488355328 := Nat.le_trans (Nat.mul_le_mul_right 24 (Nat.succ_le_succ HRl2.out)) hR
  clear HRl HRl2
  obtain ⟨⟨num, half, sn, lg⟩, rc, gone⟩ := ws
  have hst : w.heap[W]? = some (.cells #[.pointer (some ⟨b, 0, none⟩), .int .u64 (num : Int), .int .u8 (half : Int), .int .i64 (sn : Int), .int .i64 (lg : Int), .int .i64 (rc : Int), .bool gone] 72 (0, 0)) := hw
  obtain ⟨c0, c1, c2, c3, c4, c5, c6, cz⟩ := wm_cells hst
  have HST := hide hst
  clear h hw hb hg hl hRR hst hX
  simp only at h0 h1 h2 h3 HL0
  go_enter Try.func56, Try.ntmps56
  go_wp2_with fail
  refine HWS.out.mono ?_
  rintro e w2 ⟨rfl, F2, hD2, hM2⟩
  have HD2 := hide hD2
  have HM2 := hide hM2
  have HS2 := hide ((hM2.block _ (lt_of_block HST.out) hFW).trans HST.out)
  have HF2W : Hid (¬ F2 W) := hide fun k => by
    rcases hM2.foot W k with h5 | h5
    · exact hFW h5
    · exact absurd (lt_of_block HST.out) (by omega)
  clear hD2 hM2 HWS
  by_cases hx : xe = 0
  · subst hx
    have HW3 := hide (HL0.out rfl)
    have HD2d : Hid (D.Dk base w2.drew b F2 xd) := hide HD2.out.drew
    have HM2d : Hid (D.Mv F F2 w w2.drew) := hide ⟨HM2.out.os, HM2.out.tape, HM2.out.output, HM2.out.size, HM2.out.block, HM2.out.foot⟩
    clear HL0 HL1 HD2 HM2
    go_wp2_with fail
    refine wp_region_held_drew (S := fun w' => w'.heap[W]? = some (.cells #[.pointer (some ⟨b, 0, none⟩), .int .u64 (num : Int), .int .u8 (half : Int), .int .i64 (sn : Int), .int .i64 (lg : Int), .int .i64 (rc : Int), .bool gone] 72 (0, 0))) (by kernel_rfl) (HS2.out) (fun hHeld => ?_)
    refine wpAnyH_take (i := 0) (v := .pointer (some ⟨W, 0, none⟩)) rfl (by kernel_rfl) (by kernel_rfl) (by kernel_rfl) (fun _ _ _ h => h) (Or.inl ⟨by rfl, fun w1 hSw => by clear hHeld; obtain ⟨c0, c1, c2, c3, c4, c5, c6, cz⟩ := wm_cells hSw; go_simp⟩) hHeld ?_
    simp only [Act.put, List.setIfInBounds_toArray]
    refine wpAnyH_take (i := 1) (v := .pointer (some ⟨W, 0, none⟩)) rfl (by kernel_rfl) (by kernel_rfl) (by kernel_rfl) (fun _ _ _ h => h) (Or.inl ⟨by rfl, fun w1 hSw => by clear hHeld; obtain ⟨c0, c1, c2, c3, c4, c5, c6, cz⟩ := wm_cells hSw; go_simp⟩) hHeld ?_
    try simp only [Act.put]
    refine wpAnyH_take (i := 2) (v := .pointer (some ⟨W, 0, none⟩)) rfl (by kernel_rfl) (by kernel_rfl) (by kernel_rfl) (fun _ _ _ h => h) (Or.inl ⟨by rfl, fun w1 hSw => by clear hHeld; obtain ⟨c0, c1, c2, c3, c4, c5, c6, cz⟩ := wm_cells hSw; go_simp⟩) hHeld ?_
    try simp only [Act.put]
    refine wpAnyH_take (i := 3) (v := .pointer (some ⟨b, 0, none⟩)) rfl (by kernel_rfl) (by kernel_rfl) (by kernel_rfl) (fun _ _ _ h => h) (Or.inl ⟨by rfl, fun w1 hSw => by clear hHeld; obtain ⟨c0, c1, c2, c3, c4, c5, c6, cz⟩ := wm_cells hSw; go_simp⟩) hHeld ?_
    try simp only [Act.put]
    refine wpAnyH_take (i := 4) (v := .pointer (some ⟨W, 0, none⟩)) rfl (by kernel_rfl) (by kernel_rfl) (by kernel_rfl) (fun _ _ _ h => h) (Or.inl ⟨by rfl, fun w1 hSw => by clear hHeld; obtain ⟨c0, c1, c2, c3, c4, c5, c6, cz⟩ := wm_cells hSw; go_simp⟩) hHeld ?_
    try simp only [Act.put]
    refine wpAnyH_take (i := 5) (v := .pointer (some ⟨W, 0, none⟩)) rfl (by kernel_rfl) (by kernel_rfl) (by kernel_rfl) (fun _ _ _ h => h) (Or.inl ⟨by rfl, fun w1 hSw => by clear hHeld; obtain ⟨c0, c1, c2, c3, c4, c5, c6, cz⟩ := wm_cells hSw; go_simp⟩) hHeld ?_
    try simp only [Act.put]
    refine wpAnyH_take (i := 6) (v := .pointer (some ⟨W, 1, none⟩)) rfl (by kernel_rfl) (by kernel_rfl) (by kernel_rfl) (fun _ _ _ h => h) (Or.inl ⟨by rfl, fun w1 hSw => by clear hHeld; obtain ⟨c0, c1, c2, c3, c4, c5, c6, cz⟩ := wm_cells hSw; go_simp⟩) hHeld ?_
    try simp only [Act.put]
    refine wpAnyH_take (i := 7) (v := .agg #[.int .u64 (num : Int), .int .u8 (half : Int), .int .i64 (sn : Int), .int .i64 (lg : Int)]) rfl (by kernel_rfl) (by kernel_rfl) (by kernel_rfl) (fun _ _ _ h => h) (Or.inl ⟨by rfl, fun w1 hSw => by clear hHeld; obtain ⟨c0, c1, c2, c3, c4, c5, c6, cz⟩ := wm_cells hSw; go_simp⟩) hHeld ?_
    try simp only [Act.put]
    refine wpAnyH_ready (rs := [8]) (by kernel_rfl) (by simp) ?_
    refine AllReadyH.cons rfl (fun K hK => ?_) AllReadyH.nil
    go_simp
    refine (writeHead_any HD2d.out ⟨num, half, sn, lg⟩ h0 h1 h2 h3 hR2).mono ?_
    rintro e w9 ⟨rfl, F', hD', hM'⟩
    have HQ := hide hD'
    have HQM := hide (HM2d.out.trans hM')
    have hs9 := (hM'.block _ (lt_of_block hHeld) HF2W.out).trans hHeld
    clear hD' hM'
    refine hK.out _ _ (hs9) (fun hHeld => ?_)
    clear hK K
    refine wpAnyH_ready (rs := [9]) (by kernel_rfl) (by simp) ?_
    refine AllReadyH.cons rfl (fun K hK => ?_) AllReadyH.nil
    go_simp
    refine hK.out _ _ (hHeld) (fun hHeld => ?_)
    clear hK K
    refine wpAnyH_done (by kernel_rfl) ?_ _
    clear hHeld
    go_wp2_with fail
    go_ret
    exact ⟨by rw [HW3.out]; rfl, F', by rw [HW3.out]; exact HQ.out, HQM.out⟩
  · have HW3 : Hid ((xe, xd) = R) := hide (HL1.out hx).symm
    have bx : (xe != 0) = true := by simpa using hx
    clear HL0 HL1
    go_wp2_with fail
    go_ret
    exact ⟨by rw [← HW3.out]; rfl, F2, by rw [← HW3.out]; exact HD2.out, HM2.out⟩
end Go.Proofs.Ytojghjgbnnkldaa
end

section
namespace Go.Proofs.Ytojghjgbnnkldaa
open Go.RowKit Go.Shelf
open Wl (Hd WS Log)

set_option maxHeartbeats 1000000 in
set_option maxRecDepth 8000 in
theorem place_any {base : Nat} {w : World} {b W : Nat} {F : Nat → Prop} {d : D.DS} {ws : WS} (h : D.Dk base w b F d) (hw : Wm w W b ws) (ho : Wl.Ok d ws) (hd : d.dead = false) (hu : ws.h.used < Wl.hb d.S.length) :
    Calls Try.prog 59 #[.pointer (some ⟨W, 0, none⟩)] w fun e w' => e = .returned (.tuple #[.int .i64 (Wl.place d ws.h : Int), .string ⟨(Wl.ahead d ws.h).toArray⟩]) ∧ Below w.heap.size w w' := by
  have HD := hide h
  have hh3 := hs_le _ h.ok.s1
  have hhb : Wl.hb d.S.length ≤ 65536 := by unfold Wl.hb; omega
  have hhf := ho.half
  have hplt : Wl.place d ws.h < d.S.length := by
    have h9 := ho.fits.2.2
    have h8 : ws.h.half * Wl.hs d.S.length ≤ Wl.hs d.S.length := by
      have := Nat.mul_le_mul_right (Wl.hs d.S.length) (show ws.h.half ≤ 1 by omega)
      omega
    unfold Wl.hb at hu
    unfold Wl.place Wl.first; omega
  have hrd : d.read ((Wl.place d ws.h : Nat) : Int) = (d.S.getD (Wl.place d ws.h) ByteArray.empty, 0) := by unfold D.DS.read; rw [if_neg (by simp [hd]), if_neg (by omega)]; rfl
  have hs8 : (d.S.getD (Wl.place d ws.h) ByteArray.empty).size = 128 := by
    rw [List.getD_eq_getElem?_getD, List.getElem?_eq_getElem hplt]; exact h.ok.s128.get _
  have HA : Hid (Wl.ahead d ws.h = (d.S.getD (Wl.place d ws.h) ByteArray.empty).data.toList.take (ws.h.used % 128)) := hide rfl
  have HP : Hid (Wl.place d ws.h = Wl.first d.S.length ws.h.half + ws.h.used / 128) := hide rfl
  have hfl : Wl.first d.S.length ws.h.half ≤ 100000 := by have := HP.out; have := h.ok.s1; omega
  generalize Wl.ahead d ws.h = AH at *
  generalize hPL : Wl.place d ws.h = PL at *
  have hpl : PL ≤ 1026 := by have := h.ok.s1; omega
  have HRd := hide (fun V (hV : Below w.heap.size w V) => D.read_any (h.below hV) (PL : Int))
  rw [hrd] at HRd
  generalize d.S.getD PL ByteArray.empty = sec at *
  obtain ⟨⟨num, half, sn, lg⟩, rc, gone⟩ := ws
  have hst : w.heap[W]? = some (.cells #[.pointer (some ⟨b, 0, none⟩), .int .u64 (num : Int), .int .u8 (half : Int), .int .i64 (sn : Int), .int .i64 (lg : Int), .int .i64 (rc : Int), .bool gone] 72 (0, 0)) := hw
  have hu2 : sn + lg < Wl.hb d.S.length := hu
  have HUs := hide (fun V => used_any ⟨num, half, sn, lg⟩ (show sn ≤ 4294967296 by omega) (show lg ≤ 4294967296 by omega) V)
  simp only at *
  generalize Hd.used ⟨num, half, sn, lg⟩ = U at *
  have hM1 : U % 128 < 128 := Nat.mod_lt _ (by decide)
  have hQ1 : U / 128 ≤ 65536 := by omega
  have hUb : U ≤ 65536 := by omega
  have x2 : sec.extract 0 (U % 128) = ⟨AH.toArray⟩ := by
    rw [HA.out]; apply ByteArray.ext; simp only [ByteArray.data_extract]; apply Array.ext'; simp
  have hq : Int.tdiv (U : Int) 128 = ((U / 128 : Nat) : Int) := by rw [Int.tdiv_eq_ediv_of_nonneg (by omega)]; omega
  have hq2 : Int.tmod (U : Int) 128 = ((U % 128 : Nat) : Int) := by rw [Int.tmod_eq_emod_of_nonneg (by omega)]; omega
  generalize U % 128 = M at *
  generalize U / 128 = Q at *
  generalize (⟨AH.toArray⟩ : ByteArray) = AB at *
  have f2 : ∀ V : World, (Instr.slice 9 (.string sec) none (some (.int .i64 (M : Int))) none).run Try.prog V = .ok (.string AB) V := by
    intro V; rw [← x2]; have hm9 : ¬ (128 : Int) < (M : Int) := by omega
    go_simp
  have hwQ : IntKind.i64.wrap (Q : Int) = (Q : Int) := by rw [IntKind.wrap_i64]; omega
  have hwP : IntKind.i64.wrap (PL : Int) = (PL : Int) := by rw [IntKind.wrap_i64]; omega
  have hPQ : (Wl.first d.S.length half : Int) + (Q : Int) = (PL : Int) := by have := HP.out; omega
  have hst1 : (w.alloc (.cells #[.int .u64 (num : Int), .int .u8 (half : Int), .int .i64 (sn : Int), .int .i64 (lg : Int)] 58)).heap[W]? = some (.cells #[.pointer (some ⟨b, 0, none⟩), .int .u64 (num : Int), .int .u8 (half : Int), .int .i64 (sn : Int), .int .i64 (lg : Int), .int .i64 (rc : Int), .bool gone] 72 (0, 0)) := box_al hst _
  have HB0 : Hid (Below w.heap.size w (w.alloc (.cells #[.int .u64 (num : Int), .int .u8 (half : Int), .int .i64 (sn : Int), .int .i64 (lg : Int)] 58)).drew) := hide ((below_alloc w _).trans ⟨rfl, rfl, rfl, Nat.le_refl _, fun _ _ => rfl⟩)
  obtain ⟨c0, c1, c2, c3, c4, c5, c6, cz⟩ := wm_cells hst
  have HST1 := hide hst1
  clear h hw ho x2 hrd HA HP hPL hs8 hplt hu hu2 hst hhb hh3 hd
  simp only [hdC] at *
  go_enter Try.func59, Try.ntmps59
  go_wp2_with fail
  refine (HUs.out _).mono ?_
  rintro e w1 ⟨rfl, rfl⟩
  clear c0 c1 c2 c3 c4 c5 c6 cz
  go_wp2_with fail
  refine wp_region_held_drew (S := fun w' => w'.heap[W]? = some (.cells #[.pointer (some ⟨b, 0, none⟩), .int .u64 (num : Int), .int .u8 (half : Int), .int .i64 (sn : Int), .int .i64 (lg : Int), .int .i64 (rc : Int), .bool gone] 72 (0, 0))) (by kernel_rfl) (hst1) (fun hHeld => ?_)
  refine wpAnyH_take (i := 0) (v := .pointer (some ⟨W, 0, none⟩)) rfl (by kernel_rfl) (by kernel_rfl) (by kernel_rfl) (fun _ _ _ h => h) (Or.inl ⟨by rfl, fun w1 hSw => by clear hHeld; obtain ⟨c0, c1, c2, c3, c4, c5, c6, cz⟩ := wm_cells hSw; go_simp⟩) hHeld ?_
  simp only [Act.put, List.setIfInBounds_toArray]
  refine wpAnyH_take (i := 1) (v := .pointer (some ⟨W, 0, none⟩)) rfl (by kernel_rfl) (by kernel_rfl) (by kernel_rfl) (fun _ _ _ h => h) (Or.inl ⟨by rfl, fun w1 hSw => by clear hHeld; obtain ⟨c0, c1, c2, c3, c4, c5, c6, cz⟩ := wm_cells hSw; go_simp⟩) hHeld ?_
  try simp only [Act.put]
  refine wpAnyH_take (i := 2) (v := .pointer (some ⟨W, 0, none⟩)) rfl (by kernel_rfl) (by kernel_rfl) (by kernel_rfl) (fun _ _ _ h => h) (Or.inl ⟨by rfl, fun w1 hSw => by clear hHeld; obtain ⟨c0, c1, c2, c3, c4, c5, c6, cz⟩ := wm_cells hSw; go_simp⟩) hHeld ?_
  try simp only [Act.put]
  refine wpAnyH_take (i := 3) (v := .pointer (some ⟨b, 0, none⟩)) rfl (by kernel_rfl) (by kernel_rfl) (by kernel_rfl) (fun _ _ _ h => h) (Or.inl ⟨by rfl, fun w1 hSw => by clear hHeld; obtain ⟨c0, c1, c2, c3, c4, c5, c6, cz⟩ := wm_cells hSw; go_simp⟩) hHeld ?_
  try simp only [Act.put]
  refine wpAnyH_take (i := 4) (v := .pointer (some ⟨W, 0, none⟩)) rfl (by kernel_rfl) (by kernel_rfl) (by kernel_rfl) (fun _ _ _ h => h) (Or.inl ⟨by rfl, fun w1 hSw => by clear hHeld; obtain ⟨c0, c1, c2, c3, c4, c5, c6, cz⟩ := wm_cells hSw; go_simp⟩) hHeld ?_
  try simp only [Act.put]
  refine wpAnyH_take (i := 5) (v := .pointer (some ⟨W, 0, none⟩)) rfl (by kernel_rfl) (by kernel_rfl) (by kernel_rfl) (fun _ _ _ h => h) (Or.inl ⟨by rfl, fun w1 hSw => by clear hHeld; obtain ⟨c0, c1, c2, c3, c4, c5, c6, cz⟩ := wm_cells hSw; go_simp⟩) hHeld ?_
  try simp only [Act.put]
  refine wpAnyH_take (i := 6) (v := .pointer (some ⟨W, 1, none⟩)) rfl (by kernel_rfl) (by kernel_rfl) (by kernel_rfl) (fun _ _ _ h => h) (Or.inl ⟨by rfl, fun w1 hSw => by clear hHeld; obtain ⟨c0, c1, c2, c3, c4, c5, c6, cz⟩ := wm_cells hSw; go_simp⟩) hHeld ?_
  try simp only [Act.put]
  refine wpAnyH_take (i := 7) (v := .pointer (some ⟨W, 2, none⟩)) rfl (by kernel_rfl) (by kernel_rfl) (by kernel_rfl) (fun _ _ _ h => h) (Or.inl ⟨by rfl, fun w1 hSw => by clear hHeld; obtain ⟨c0, c1, c2, c3, c4, c5, c6, cz⟩ := wm_cells hSw; go_simp⟩) hHeld ?_
  try simp only [Act.put]
  refine wpAnyH_take (i := 8) (v := .int .u8 (half : Int)) rfl (by kernel_rfl) (by kernel_rfl) (by kernel_rfl) (fun _ _ _ h => h) (Or.inl ⟨by rfl, fun w1 hSw => by clear hHeld; obtain ⟨c0, c1, c2, c3, c4, c5, c6, cz⟩ := wm_cells hSw; go_simp⟩) hHeld ?_
  try simp only [Act.put]
  refine wpAnyH_take (i := 10) (v := .int .i64 (U : Int)) rfl (by kernel_rfl) (by kernel_rfl) (by kernel_rfl) (fun _ _ _ h => h) (Or.inl ⟨by rfl, fun w1 hSw => by clear hHeld; obtain ⟨c0, c1, c2, c3, c4, c5, c6, cz⟩ := wm_cells hSw; go_simp⟩) hHeld ?_
  try simp only [Act.put]
  refine wpAnyH_take (i := 11) (v := .int .i64 (Q : Int)) rfl (by kernel_rfl) (by kernel_rfl) (by kernel_rfl) (fun _ _ _ h => h) (Or.inl ⟨by rfl, fun w1 hSw => by clear hHeld; obtain ⟨c0, c1, c2, c3, c4, c5, c6, cz⟩ := wm_cells hSw; go_simp⟩) hHeld ?_
  try simp only [Act.put]
  refine wpAnyH_ready (rs := [9]) (by kernel_rfl) (by simp) ?_
  refine AllReadyH.cons rfl (fun K hK => ?_) AllReadyH.nil
  go_simp
  refine (firstSector_any (HD.out.below HB0.out) hhf).mono ?_
  rintro e w0a ⟨rfl, rfl⟩
  have HB1 := HB0
  refine hK.out _ _ (hHeld) (fun hHeld => ?_)
  clear hK K
  refine wpAnyH_ready (rs := [12]) (by kernel_rfl) (by simp) ?_
  refine AllReadyH.cons rfl (fun K hK => ?_) AllReadyH.nil
  go_simp
  have HB2 := HB1
  refine hK.out _ _ (hHeld) (fun hHeld => ?_)
  clear hK K
  refine wpAnyH_ready (rs := [13]) (by kernel_rfl) (by simp) ?_
  refine AllReadyH.cons rfl (fun K hK => ?_) AllReadyH.nil
  go_simp
  have HB3 := HB2
  refine hK.out _ _ (hHeld) (fun hHeld => ?_)
  clear hK K
  refine wpAnyH_done (by kernel_rfl) ?_ _
  clear hHeld
  have HB9 := HB3
  have hst9 : (w.alloc (.cells #[.int .u64 (num : Int), .int .u8 (half : Int), .int .i64 (sn : Int), .int .i64 (lg : Int)] 58)).drew.heap[W]? = some (.cells #[.pointer (some ⟨b, 0, none⟩), .int .u64 (num : Int), .int .u8 (half : Int), .int .i64 (sn : Int), .int .i64 (lg : Int), .int .i64 (rc : Int), .bool gone] 72 (0, 0)) := HST1.out
  clear HST1 HB0
  obtain ⟨c0, c1, c2, c3, c4, c5, c6, cz⟩ := wm_cells hst9
  go_wp2_with fail
  refine (HRd.out _ HB9.out).mono ?_
  rintro e w3 ⟨rfl, rfl⟩
  go_wp2_with fail
  refine wp_region_held_drew (S := fun w' => w'.heap[W]? = some (.cells #[.pointer (some ⟨b, 0, none⟩), .int .u64 (num : Int), .int .u8 (half : Int), .int .i64 (sn : Int), .int .i64 (lg : Int), .int .i64 (rc : Int), .bool gone] 72 (0, 0))) (by kernel_rfl) (hst9) (fun hHeld => ?_)
  refine wpAnyH_take (i := 0) (v := .int .i64 (PL : Int)) rfl (by kernel_rfl) (by kernel_rfl) (by kernel_rfl) (fun _ _ _ h => h) (Or.inl ⟨by rfl, fun w1 hSw => by clear hHeld; obtain ⟨c0, c1, c2, c3, c4, c5, c6, cz⟩ := wm_cells hSw; go_simp⟩) hHeld ?_
  simp only [Act.put, List.setIfInBounds_toArray]
  refine wpAnyH_take (i := 1) (v := .string sec) rfl (by kernel_rfl) (by kernel_rfl) (by kernel_rfl) (fun _ _ _ h => h) (Or.inl ⟨by rfl, fun w1 hSw => by clear hHeld; obtain ⟨c0, c1, c2, c3, c4, c5, c6, cz⟩ := wm_cells hSw; go_simp⟩) hHeld ?_
  try simp only [Act.put]
  refine wpAnyH_take (i := 2) (v := .int .i64 (U : Int)) rfl (by kernel_rfl) (by kernel_rfl) (by kernel_rfl) (fun _ _ _ h => h) (Or.inl ⟨by rfl, fun w1 hSw => by clear hHeld; obtain ⟨c0, c1, c2, c3, c4, c5, c6, cz⟩ := wm_cells hSw; go_simp⟩) hHeld ?_
  try simp only [Act.put]
  refine wpAnyH_take (i := 3) (v := .int .i64 (M : Int)) rfl (by kernel_rfl) (by kernel_rfl) (by kernel_rfl) (fun _ _ _ h => h) (Or.inl ⟨by rfl, fun w1 hSw => by clear hHeld; obtain ⟨c0, c1, c2, c3, c4, c5, c6, cz⟩ := wm_cells hSw; go_simp⟩) hHeld ?_
  try simp only [Act.put]
  refine wpAnyH_take (i := 5) (v := .int .i64 (PL : Int)) rfl (by kernel_rfl) (by kernel_rfl) (by kernel_rfl) (fun _ _ _ h => h) (Or.inl ⟨by rfl, fun w1 hSw => by clear hHeld; obtain ⟨c0, c1, c2, c3, c4, c5, c6, cz⟩ := wm_cells hSw; go_simp⟩) hHeld ?_
  try simp only [Act.put]
  refine wpAnyH_ready (rs := [4]) (by kernel_rfl) (by simp) ?_
  refine AllReadyH.cons rfl (fun K hK => ?_) AllReadyH.nil
  go_simp
  refine hK.out _ _ (hHeld) (fun hHeld => ?_)
  clear hK K
  refine wpAnyH_ready (rs := [6]) (by kernel_rfl) (by simp) ?_
  refine AllReadyH.cons rfl (fun K hK => ?_) AllReadyH.nil
  go_simp
  refine hK.out _ _ (hHeld) (fun hHeld => ?_)
  clear hK K
  refine wpAnyH_done (by kernel_rfl) ?_ _
  clear hHeld
  go_wp2_with fail
  go_ret2
  exact ⟨rfl, HB9.out.trans ⟨rfl, rfl, rfl, Nat.le_refl _, fun _ _ => rfl⟩⟩
end Go.Proofs.Ytojghjgbnnkldaa
end

section
namespace Go.Proofs.Ytojghjgbnnkldaa
open Go.RowKit Go.Shelf
open Wl (Hd WS Log)

theorem bc_rep (n : Nat) : bc (List.replicate n 0) = List.replicate n (.int .u8 0) := by unfold bc; rw [List.map_replicate]; rfl
theorem splice_first (m : Nat) (a : List UInt8) : splice (bc (List.replicate m 0)) 0 (bc a) = bc (a ++ List.replicate (m - a.length) 0) := by
  unfold splice
  rw [bc_append, bc_rep, bc_rep, List.take_zero, List.nil_append, List.drop_replicate, bc_len, Nat.zero_add]
theorem splice_second (m : Nat) (a f : List UInt8) (h : a.length + f.length ≤ m) : splice (bc (a ++ List.replicate (m - a.length) 0)) a.length (bc f) = bc ((a ++ f) ++ List.replicate (m - (a ++ f).length) 0) := by
  unfold splice
  rw [bc_append, bc_append, bc_append, List.take_append_of_le_length (by rw [bc_len]; omega), List.take_of_length_le (by rw [bc_len]; omega), List.drop_append, List.drop_eq_nil_of_le (by rw [bc_len, bc_len]; omega), List.nil_append, bc_len, bc_len, bc_rep, bc_rep, List.drop_replicate, List.append_assoc]
  congr 2
  rw [List.length_append]; congr 1; omega
theorem pad_eq (l : List UInt8) : l ++ List.replicate (Wl.up l.length * 128 - l.length) 0 = Wl.pad l := rfl
theorem pad_len (l : List UInt8) : (Wl.pad l).length = Wl.up l.length * 128 := by
  unfold Wl.pad
  have : l.length ≤ Wl.up l.length * 128 := by unfold Wl.up; omega
  simp; omega
theorem sects_eq (l : List UInt8) : secs (Wl.pad l) (Wl.up l.length) = Wl.sects l := rfl
def FW (F : Nat → Prop) (W : Nat) (k : Nat) : Prop := F k ∨ k = W
theorem Wm.below {w w' : World} {W b : Nat} {ws : WS} (h : Wm w W b ws) (hb : Below w.heap.size w w') : Wm w' W b ws := box_bl h hb
theorem frame_len (r : ByteArray) : (Wl.frame r).length = (Pk.enc r.size).length + r.size := by unfold Wl.frame; rw [List.length_append, ← D.size_list]
theorem wm_set3 {w : World} {W b num half sn lg rc : Nat} {gone : Bool} (h : Wm w W b ⟨⟨num, half, sn, lg⟩, rc, gone⟩) (n l r : Nat) :
    Wm (((w.setCell ⟨W, 1, none⟩ (.int .u64 (n : Int))).setCell ⟨W, 4, none⟩ (.int .i64 (l : Int))).setCell ⟨W, 5, none⟩ (.int .i64 (r : Int))) W b ⟨⟨n, half, sn, l⟩, r, gone⟩ := by
  unfold Wm
  rw [setCell_self (setCell_self (setCell_self h _) _) _]
  rfl
theorem far3 {w : World} {W k : Nat} (h : k ≠ W) (a b c : Value) : (((w.setCell ⟨W, 1, none⟩ a).setCell ⟨W, 4, none⟩ b).setCell ⟨W, 5, none⟩ c).heap[k]? = w.heap[k]? := by
  iterate 3 rw [Below.heap_setCell _ _ _ _ h]
theorem size3 (w : World) (W : Nat) (a b c : Value) : (((w.setCell ⟨W, 1, none⟩ a).setCell ⟨W, 4, none⟩ b).setCell ⟨W, 5, none⟩ c).heap.size = w.heap.size := by
  iterate 3 rw [D.setCell_size]
end Go.Proofs.Ytojghjgbnnkldaa
end
