import Derived.Test.YtnhibcadenmglaaDkH
namespace Go.Proofs.Ytnhibcadenmglaa
open Go.RowKit

/-- what stands behind i texts -/
def upTo (l : List ByteArray) (i : Nat) : List ByteArray := l.take i ++ List.replicate (l.length - i) zsec
theorem upTo_len {l : List ByteArray} {i : Nat} (h : i ≤ l.length) : (upTo l i).length = l.length := by simp [upTo]; omega
theorem upTo_zero (l : List ByteArray) : upTo l 0 = List.replicate l.length zsec := by simp [upTo]
theorem upTo_all (l : List ByteArray) : upTo l l.length = l := by simp [upTo]
theorem upTo_128 {l : List ByteArray} (h : A128 l) (i : Nat) : A128 (upTo l i) := by
  intro s hs
  rcases List.mem_append.1 hs with h1 | h1
  · exact h s (List.mem_of_mem_take h1)
  · rw [(List.mem_replicate.1 h1).2]; exact zsec_size
theorem upTo_step {l : List ByteArray} (h : A128 l) {i : Nat} (hi : i < l.length) : layS (upTo l i) i l[i] = upTo l (i + 1) := by
  have e : l.length - i = (l.length - (i + 1)) + 1 := by omega
  have hl : (l.take i).length = i := by rw [List.length_take]; omega
  have hg : (upTo l i).getD i ByteArray.empty = zsec := by
    unfold upTo
    rw [List.getD_eq_getElem?_getD, List.getElem?_append_right (by omega), hl, Nat.sub_self, e, List.replicate_succ]; rfl
  unfold layS
  rw [hg, laid_all (by rw [h.get hi, zsec_size])]
  unfold upTo
  rw [e, List.replicate_succ, List.set_append_right _ _ (by omega), hl, Nat.sub_self, List.set_cons_zero, List.take_succ_eq_append_getElem hi, List.append_assoc]
  rfl

theorem fresh_dkv {w W : World} {S : List ByteArray} {b g : Nat} (hS : A128 S) (h0 : 0 < S.length) (h1 : S.length ≤ 1026) (hgb : g ≠ b) (hlb : w.heap.size ≤ b) (hlg : w.heap.size ≤ g)
    (hb : W.heap[b]? = some (.cells #[.slice (some ⟨g, 0, none⟩) S.length S.length, .slice none 0 0, .bool false, .int .i64 0, .int .i64 0] 63 (0, 0)))
    (hg : W.heap[g]? = some (.cells (scs S).toArray 83 (0, 0))) : DkV w.heap.size W b (.slice (some ⟨g, 0, none⟩) S.length S.length) (.slice none 0 0) (fresh S) := by
  obtain ⟨vs, vr, h, hF⟩ := fresh_dk (w := w) hS h0 h1 hgb hlb hlg hb hg
  have e0 := h.blk
  rw [hb] at e0
  injection e0 with e0
  injection e0 with e0
  simp only [Array.mk.injEq, List.cons.injEq] at e0
  obtain ⟨rfl, rfl, _⟩ := e0
  exact h

set_option maxHeartbeats 1000000 in
theorem loaded_any {w : World} {ad : Option Addr} {ab ao cap : Nat} {l : List ByteArray} (h : Rs w ad ab ao l) (h8 : A128 l) (h0 : 0 < l.length) (h1 : l.length ≤ 1026) :
    Calls Try.prog 35 #[.slice ad l.length cap] w fun e w' => ∃ b F, e = .returned (.pointer (some ⟨b, 0, none⟩)) ∧ Dk w.heap.size w' b F (fresh l) ∧ Below w.heap.size w w' := by
  obtain ⟨i0, hi0, hz0, hz1, hz2⟩ := info_parts Try.infoC
  have hmk : (Instr.makeSlice 61 (.int .i64 (l.length : Int)) (.int .i64 (l.length : Int))).run Try.prog w = .ok (.slice (some ⟨w.heap.size, 0, none⟩) l.length l.length) (w.alloc (.cells (scs (upTo l 0)).toArray 83)) := by
    have := run_make (P := Try.prog) w 61 83 i0 _ Try.underlying61 hi0 hz0 .i64 .i64 (l.length : Int) (l.length : Int) (by omega) (Int.le_refl _) (by rw [hz2]; omega) (by omega)
    rw [Int.toNat_natCast, hz1] at this
    rw [this, upTo_zero, ← made_sec, Array.toArray_toList]
  generalize hX : (scs (upTo l 0)).toArray = X at hmk
  have START : Hid (DkV w.heap.size ((w.alloc (.cells X 83)).alloc (.cells #[.slice (some ⟨w.heap.size, 0, none⟩) l.length l.length, .slice none 0 0, .bool false, .int .i64 0, .int .i64 0] 63)) (w.heap.size + 1) (.slice (some ⟨w.heap.size, 0, none⟩) l.length l.length) (.slice none 0 0) (fresh (upTo l 0))) := by
    have e := upTo_len (l := l) (i := 0) (Nat.zero_le _)
    have := fresh_dkv (w := w) (W := (w.alloc (.cells X 83)).alloc (.cells #[.slice (some ⟨w.heap.size, 0, none⟩) l.length l.length, .slice none 0 0, .bool false, .int .i64 0, .int .i64 0] 63)) (S := upTo l 0) (b := w.heap.size + 1) (g := w.heap.size) (upTo_128 h8 0) (by omega) (by omega) (by omega) (by omega) (by omega) (by rw [e, show w.heap.size + 1 = (w.alloc (.cells X 83)).heap.size from (World.size_alloc _ _).symm]; exact heap_alloc_new _ _) (by rw [Below.heap_alloc _ _ _ (by rw [World.size_alloc]; omega), hX]; exact heap_alloc_new w _)
    rw [e] at this
    exact this
  have hbW : Below w.heap.size w ((w.alloc (.cells X 83)).alloc (.cells #[.slice (some ⟨w.heap.size, 0, none⟩) l.length l.length, .slice none 0 0, .bool false, .int .i64 0, .int .i64 0] 63)) := ((Below.refl _ w).alloc (Nat.le_refl _) _).alloc (by rw [World.size_alloc]; omega) _
  have HBW := hide hbW
  have ea := h.at_ h0
  subst ea
  have H := hide h
  clear hX hi0 hz0 hz1 hz2 i0 hbW h
  go_enter Try.func35, Try.ntmps35
  go_wp2
  go_loopw [13] (fun u wr => ∃ i : Nat, u = .int .i64 (i : Int) ∧ i ≤ l.length ∧ Hid (DkV w.heap.size wr (w.heap.size + 1) (.slice (some ⟨w.heap.size, 0, none⟩) l.length l.length) (.slice none 0 0) (fresh (upTo l i))) ∧ Hid (Below w.heap.size w wr)) (fun u _ => (l.length - (intOf u).toNat))
  case atStart => exact ⟨0, rfl, Nat.zero_le _, START, HBW⟩
  case round =>
    obtain ⟨i, rfl, hi, HD, HB⟩ := hrel
    by_cases hil : i < l.length
    · have c0 := (H.out.below HB.out).cell i hil
      have hst := upTo_step h8 hil
      have hlen := upTo_len (l := l) hi
      have HL := hide (lay_any HD.out i l[i] (by show i < (upTo l i).length; omega) (by rw [h8.get hil]; exact Nat.le_refl _))
      have e : ({ fresh (upTo l i) with S := layS (fresh (upTo l i)).S i l[i] } : DS) = fresh (upTo l (i + 1)) := by show fresh (layS (upTo l i) i l[i]) = _; rw [hst]
      rw [e] at HL
      generalize l[i] = s at *
      have hf : ∀ k, Fd (w.heap.size + 1) (.slice (some ⟨w.heap.size, 0, none⟩) l.length l.length) (.slice none 0 0) k → w.heap.size ≤ k := fun k hk => (HD.out.ftlt k hk).1
      have HF := hide hf
      clear hst hlen e hf
      go_wp2_with (go_at_call 38; refine HL.out.mono ?_; rintro e w2 ⟨rfl, hD2, hM2⟩; have HD2 := hide hD2; have HM2 := hide (HB.out.trans (hM2.below HB.out.size HF.out)); clear hD2 hM2)
      exact ⟨⟨i + 1, by go_num, by omega, HD2, HM2⟩, by simp [intOf]; omega⟩
    · obtain rfl : i = l.length := by omega
      rw [upTo_all] at HD
      go_wp2
      go_ret
      exact ⟨_, _, rfl, ⟨_, _, HD.out, rfl⟩, HB.out⟩

/-- Load's error -/
def loadE (l : List ByteArray) : Int := if ¬ (1 ≤ l.length ∧ l.length ≤ 1026) then 40 else if all8 l = true then 0 else 41
theorem loadE_ok {l : List ByteArray} (h : loadE l = 0) : A128 l ∧ 0 < l.length ∧ l.length ≤ 1026 := by
  unfold loadE at h
  split at h
  · cases h
  · split at h
    · rename_i h1 h2; exact ⟨all8_A h2, by omega, by omega⟩
    · cases h

set_option maxHeartbeats 1000000 in
theorem load_yes {w : World} {ad : Option Addr} {ab ao cap : Nat} {l : List ByteArray} (h : Rs w ad ab ao l) (h0 : loadE l = 0) :
    Calls Try.prog 13 #[.slice ad l.length cap] w fun e w' => ∃ b F, e = .returned (.tuple #[.pointer (some ⟨b, 0, none⟩), .int .i64 0]) ∧ Dk w.heap.size w' b F (fresh l) ∧ Below w.heap.size w w' := by
  obtain ⟨h8, hp, hq⟩ := loadE_ok h0
  have HA := hide (allWhole_any (cap := cap) h (by omega))
  rw [all8_of h8] at HA
  have HL := hide (loaded_any (cap := cap) h h8 hp hq)
  have b0 : decide ((1 : Int) ≤ (l.length : Int)) = true := by simp; omega
  have b1 : decide ((l.length : Int) ≤ 1026) = true := by simp; omega
  clear h h0
  go_enter Try.func13, Try.ntmps13
  go_wp2_with (first
    | (go_at_call 34; refine HA.out.mono ?_; rintro e w1 ⟨rfl, rfl⟩)
    | (go_at_call 35; refine HL.out.mono ?_; rintro e w2 ⟨b, F, rfl, hD, hB⟩; have HD := hide hD; have HB := hide hB; clear hD hB)
    | go_in)
  go_ret2
  exact ⟨_, _, rfl, HD.out, HB.out⟩

set_option maxHeartbeats 1000000 in
theorem load_no {w : World} {ad : Option Addr} {ab ao cap : Nat} {l : List ByteArray} (h : Rs w ad ab ao l) (h0 : loadE l ≠ 0) (hl : l.length ≤ 8796093021952) :
    Calls Try.prog 13 #[.slice ad l.length cap] w fun e w' => e = .returned (.tuple #[.pointer none, .int .i64 (loadE l)]) ∧ w' = w := by
  have HA := hide (allWhole_any (cap := cap) h hl)
  unfold loadE at h0 ⊢
  by_cases h1 : 1 ≤ l.length ∧ l.length ≤ 1026
  · rw [if_neg (by simpa using h1)] at h0 ⊢
    obtain ⟨hp, hq⟩ := h1
    have b0 : decide ((1 : Int) ≤ (l.length : Int)) = true := by simp; omega
    have b1 : decide ((l.length : Int) ≤ 1026) = true := by simp; omega
    cases h8 : all8 l
    · rw [h8] at HA
      rw [if_neg (by simp)]
      clear h h0 h8
      go_enter Try.func13, Try.ntmps13
      go_wp2_with (first
        | (go_at_call 34; refine HA.out.mono ?_; rintro e w1 ⟨rfl, rfl⟩)
        | go_in)
      go_ret2
      exact ⟨rfl, rfl⟩
    · rw [h8] at h0; exact absurd rfl h0
  · rw [if_pos h1]
    clear h h0 HA
    by_cases hp : 1 ≤ l.length
    · have b0 : decide ((1 : Int) ≤ (l.length : Int)) = true := by simp; omega
      have b1 : decide ((l.length : Int) ≤ 1026) = false := by simp; omega
      have b2 : ¬ l.length ≤ 1026 := by omega
      clear h1
      go_enter Try.func13, Try.ntmps13
      go_wp2
      go_ret2
      exact ⟨rfl, rfl⟩
    · have b0 : decide ((1 : Int) ≤ (l.length : Int)) = false := by simp; omega
      clear h1
      go_enter Try.func13, Try.ntmps13
      go_wp2
      go_ret2
      exact ⟨rfl, rfl⟩
end Go.Proofs.Ytnhibcadenmglaa
