import Derived.Test.YteiickpokabmoabDkD
namespace Go.Proofs.Yteiickpokabmoab.D
open Go.RowKit

theorem below_drew {B : Nat} {a b : World} (h : Below B a.drew b) : Below B a b := ⟨h.os, h.tape, h.output, h.size, h.block⟩
theorem clone_end {w W0 w1 w2 : World} {c : Nat} {v0 v1 vs' vr' : Value} {d : DS} (hok : d.ok) (hc : c = w.heap.size) (h0 : W0 = w.alloc (.cells #[v0, v1, .bool d.dead, .int .i64 d.left, .int .i64 d.byt] 45))
    (h1 : Below W0.heap.size W0 w1) (h2 : Below w1.heap.size w1 w2)
    (hs : w1.ownsRow W0.heap.size 48 128 vs' d.S.length (scs d.S)) (hr : w2.ownsRow w1.heap.size 51 2 vr' d.R.length (wcs d.R)) :
    DkV c ((w2.setCell ⟨c, 0, none⟩ vs').setCell ⟨c, 1, none⟩ vr') c vs' vr' d ∧ Below w.heap.size w ((w2.setCell ⟨c, 0, none⟩ vs').setCell ⟨c, 1, none⟩ vr') := by
  subst hc
  have hsz : W0.heap.size = w.heap.size + 1 := by rw [h0]; exact World.size_alloc _ _
  have hs1 := h1.size
  have hs2 := h2.size
  have hB : Below w.heap.size w w2 := by
    have a1 : Below w.heap.size w W0 := by rw [h0]; exact (Below.refl _ w).alloc (Nat.le_refl _) _
    exact a1.trans ((below_up h1 (by omega)).trans (below_up h2 (by omega)))
  have hblk : w2.heap[w.heap.size]? = some (.cells #[v0, v1, .bool d.dead, .int .i64 d.left, .int .i64 d.byt] 45 (0, 0)) := by
    rw [h2.block _ (by omega), h1.block _ (by omega), h0]; exact heap_alloc_new w _
  have k1 : ∀ k, vs'.ownBlock = some k → W0.heap.size ≤ k ∧ k < w1.heap.size := hs.lt
  have k2 : ∀ k, vr'.ownBlock = some k → w1.heap.size ≤ k ∧ k < w2.heap.size := hr.lt
  refine ⟨⟨?_, Nat.le_refl _, ?_, ?_, fun e => absurd (k1 _ e).1 (by omega), fun e => absurd (k2 _ e).1 (by omega), fun k h e => absurd (k1 k h).2 (by have := (k2 k e).1; omega), hok⟩, (hB.setCell (Nat.le_refl _) _).setCell (Nat.le_refl _) _⟩
  · rw [setFive (setFive hblk 0 _) 1 _]; rfl
  · refine own_base (own_keep hs fun k hk => ?_) (by omega)
    have := k1 k hk
    rw [Below.heap_setCell _ _ _ k (by show k ≠ w.heap.size; omega), Below.heap_setCell _ _ _ k (by show k ≠ w.heap.size; omega), h2.block k (by omega)]
  · refine own_base (own_keep hr fun k hk => ?_) (by omega)
    have := k2 k hk
    rw [Below.heap_setCell _ _ _ k (by show k ≠ w.heap.size; omega), Below.heap_setCell _ _ _ k (by show k ≠ w.heap.size; omega)]

set_option maxHeartbeats 1000000 in
set_option maxRecDepth 8000 in
theorem clone_any {base : Nat} {w : World} {b : Nat} {F : Nat → Prop} {d : DS} (h : Dk base w b F d) (hl : d.R.length * 24 ≤ 140737488355328) :
    Calls Try.prog 7 #[.pointer (some ⟨b, 0, none⟩)] w fun e w' => ∃ c F', e = .returned (.pointer (some ⟨c, 0, none⟩)) ∧ Dk w.heap.size w' c F' d ∧ Below w.heap.size w w' := by
  obtain ⟨vs, vr, h, rfl⟩ := h
  have c0 := h.c0
  have c1 := h.c1
  have c2 := h.c2
  have c3 := h.c3
  have c4 := h.c4
  have H := hide h
  have hlt := h.lt
  obtain ⟨ad0, cap0, hvs⟩ := own_slice h.sec
  obtain ⟨ad1, cap1, hvr⟩ := own_slice h.raw
  subst hvs; subst hvr
  clear h
  go_enter Try.func7, Try.ntmps7
  go_wp2_with fail
  obtain ⟨W0, hW0⟩ : ∃ W0, w.alloc (.cells #[.slice ad0 d.S.length cap0, .slice ad1 d.R.length cap1, .bool d.dead, .int .i64 d.left, .int .i64 d.byt] 45) = W0 := ⟨_, rfl⟩
  rw [hW0]
  have H0 : Hid (DkV base W0 b (.slice ad0 d.S.length cap0) (.slice ad1 d.R.length cap1) d) := by
    rw [← hW0]; exact H.out.keep fun k hk => Below.heap_alloc _ _ k (H.out.ftlt k hk).2
  have hnb : W0.heap[w.heap.size]? = some (.cells #[.slice ad0 d.S.length cap0, .slice ad1 d.R.length cap1, .bool d.dead, .int .i64 d.left, .int .i64 d.byt] 45 (0, 0)) := by rw [← hW0]; exact heap_alloc_new w _
  have HNB := hide hnb
  have HW := hide hW0.symm
  have hwl : w.heap.size < W0.heap.size := lt_of_block hnb
  clear hnb hW0 c0 c1 c2 c3 c4
  have c0 := H0.out.c0
  have c1 := H0.out.c1
  have hbn : b ≠ w.heap.size := by omega
  have hbn' : w.heap.size ≠ b := by omega
  have C1 := hide (sclone_any (w := W0.drew) H0.out.sec H0.out.ok.s128 H0.out.ok.s0 H0.out.ok.s1)
  have C2 : Hid (∀ w1, Below W0.heap.size W0 w1 → _) := fun w1 (hb : Below W0.heap.size W0 w1) => wclone_any (H0.out.keep (fun k hk => hb.block k (H0.out.ftlt k hk).2)).raw hl
  have K0 : Hid (∀ w1, Below W0.heap.size W0 w1 → w1.cell? ⟨b, 0, none⟩ = some (.slice ad0 d.S.length cap0) ∧ w1.cell? ⟨b, 1, none⟩ = some (.slice ad1 d.R.length cap1) ∧ w1.cell? ⟨w.heap.size, 0, none⟩ = some (.slice ad0 d.S.length cap0) ∧ w1.cell? ⟨w.heap.size, 1, none⟩ = some (.slice ad1 d.R.length cap1) ∧ (∀ k, w1.frozen? ⟨w.heap.size, k, none⟩ = false)) := by
    intro w1 hb
    have h1 := H0.out.keep (fun k hk => hb.block k (H0.out.ftlt k hk).2)
    have h2 := (hb.block _ hwl).trans HNB.out
    exact ⟨h1.c0, h1.c1, by simp [World.cell?, h2], by simp [World.cell?, h2], fun k => by simp [World.frozen?, h2]⟩
  go_region_held3 (fun w' => w'.cell? ⟨b, 0, none⟩ = some (.slice ad0 d.S.length cap0) ∧ w'.cell? ⟨b, 1, none⟩ = some (.slice ad1 d.R.length cap1)) (go_keep) (first
    | (go_at_call 18; refine C1.out.mono ?_; rintro e w1 ⟨v1, rfl, hown1, hb1⟩; obtain ⟨ad2, cap2, rfl⟩ := own_slice hown1; have HO1 := hide hown1; have HL1 := hide (below_drew hb1); obtain ⟨k0, k1, k2, k3, k4⟩ := K0.out w1 (below_drew hb1); clear hown1 hb1)
    | (go_at_call 19; refine (C2.out w1 HL1.out).mono ?_; rintro e w2 ⟨v2, rfl, hown2, hb2⟩; obtain ⟨ad3, cap3, rfl⟩ := own_slice hown2; have HO2 := hide hown2; have HL2 := hide hb2; clear k0 k1 k2 k3 k4; obtain ⟨k0, k1, k2, k3, k4⟩ := K0.out w2 (HL1.out.trans (below_up hb2 HL1.out.size)); clear hown2 hb2))
  go_wp2
  go_ret
  have hE := clone_end (c := w.heap.size) H0.out.ok rfl HW.out HL1.out HL2.out HO1.out HO2.out
  exact ⟨_, _, rfl, ⟨_, _, hE.1, rfl⟩, hE.2⟩

theorem made_str (n : Nat) : (madeCells (Value.string ByteArray.empty).cells (n * 1)).toList = List.replicate n (.string ByteArray.empty) := by
  apply List.ext_getElem
  · rw [Array.length_toList, size_madeCells, List.length_replicate, Nat.mul_one]
  · intro i h1 h2
    simp [madeCells, Value.cells, Nat.mod_one]
/-- what stands of l in Sectors' round i -/
def strX (S : List ByteArray) (i : Nat) : List Value := (S.take i).map .string ++ List.replicate (S.length - i) (.string ByteArray.empty)
theorem strX_len {S : List ByteArray} {i : Nat} (h : i ≤ S.length) : (strX S i).length = S.length := by simp [strX]; omega
theorem strX_step {S : List ByteArray} {i : Nat} (h : i < S.length) : (strX S i).set i (.string S[i]) = strX S (i + 1) := by
  have e : S.length - i = (S.length - (i + 1)) + 1 := by omega
  have hl : ((S.take i).map Value.string).length = i := by simp; omega
  unfold strX
  rw [e, List.replicate_succ, List.set_append_right _ _ (by omega), hl, Nat.sub_self, List.set_cons_zero, List.take_succ_eq_append_getElem h, List.map_append, List.append_assoc]
  rfl
theorem strX_all (S : List ByteArray) : strX S S.length = S.map .string := by simp [strX]

set_option maxHeartbeats 400000 in
theorem sectors_any {base : Nat} {w : World} {b : Nat} {F : Nat → Prop} {d : DS} (h : Dk base w b F d) :
    Calls Try.prog 11 #[.pointer (some ⟨b, 0, none⟩)] w fun e w' => ∃ v', e = .returned v' ∧ w'.ownsRow w.heap.size 9 1 v' d.S.length (d.S.map .string) ∧ Below w.heap.size w w' := by
  have hsz := size_any h
  obtain ⟨vs, vr, h, rfl⟩ := h
  obtain ⟨i0, hi0, hz0, hz1, hz2⟩ := info_parts Try.infoS
  obtain ⟨g, cap, hv, hg, hc, hcm⟩ := h.form
  have c0 := h.c0
  rw [hv] at c0
  subst hv
  have hS := h.ok.s1
  have hmk := run_make (P := Try.prog) w 22 9 i0 (.string ByteArray.empty) Try.underlying22 hi0 hz0 .i64 .i64 (d.S.length : Int) (d.S.length : Int) (by omega) (Int.le_refl _) (by rw [hz2]; omega) (by omega)
  rw [Int.toNat_natCast, hz1] at hmk
  have H := hide h
  have HSZ := hide hsz
  have hlt := h.lt
  have START : Hid ((w.alloc (.cells (madeCells #[Value.string ByteArray.empty] d.S.length) 9)).ownsRow w.heap.size 9 1 (.slice (some ⟨w.heap.size, 0, none⟩) d.S.length d.S.length) d.S.length (strX d.S 0)) := by
    have e := made_str d.S.length
    rw [Nat.mul_one] at e
    refine ⟨by rw [strX_len (Nat.zero_le _)]; omega, .inr ⟨_, _, _, rfl, Nat.le_refl _, heap_alloc_new w _, Nat.le_refl _, by unfold maxLen; omega, by rw [size_madeCells]; omega, ?_⟩⟩
    rw [show madeCells #[Value.string ByteArray.empty] d.S.length = madeCells (Value.string ByteArray.empty).cells d.S.length from rfl, e, List.take_of_length_le (by simp)]
    simp [strX]
  clear h hsz
  go_enter Try.func11, Try.ntmps11
  go_wp2_with (go_at_call 24; refine HSZ.out.mono ?_; rintro e w1 ⟨rfl, rfl⟩)
  go_loopw [13] (fun u wr => ∃ i : Nat, u = .int .i64 (i : Int) ∧ i ≤ d.S.length ∧ wr.ownsRow w1.heap.size 9 1 (.slice (some ⟨w1.heap.size, 0, none⟩) d.S.length d.S.length) d.S.length (strX d.S i) ∧ Below w1.heap.size w1 wr) (fun u _ => (d.S.length - (intOf u).toNat))
  case atStart => exact ⟨0, rfl, Nat.zero_le _, START.out, (Below.refl _ w1).alloc (Nat.le_refl _) _⟩
  case round =>
    obtain ⟨i, rfl, hi, hown, hbel⟩ := hrel
    have HB := H.out.keep (fun k hk => hbel.block k (H.out.ftlt k hk).2)
    have c0' := HB.c0
    have HOWN := hide hown
    have HBEL := hide hbel
    by_cases hil : i < d.S.length
    · have b0 : decide ((i : Int) < (d.S.length : Int)) = true := by simp; omega
      have hcv := sec_str HB hil
      have e1 := hown.cellAt i (by omega)
      rw [List.getElem?_eq_getElem (by rw [strX_len hi]; exact hil)] at e1
      have e2 := hown.frozenAt i
      have hst := hown.stored i (.string d.S[i])
      rw [strX_step hil] at hst
      have HST := hide hst
      have hb2 : Below w1.heap.size w1 (wr.setCell ⟨w1.heap.size, i, none⟩ (.string d.S[i])) := hbel.setCell (Nat.le_refl _) _
      have HB2 := hide hb2
      clear hown hbel HB hst hb2
      go_wp2
      exact ⟨⟨i + 1, by go_num, by omega, HST.out.1, HB2.out⟩, by simp [intOf]; omega⟩
    · obtain rfl : i = d.S.length := by omega
      have b0 : decide ((d.S.length : Int) < (d.S.length : Int)) = false := by simp
      clear hown hbel HB
      go_wp2
      go_ret
      exact ⟨_, rfl, by rw [← strX_all]; exact HOWN.out, HBEL.out⟩
end Go.Proofs.Yteiickpokabmoab.D
