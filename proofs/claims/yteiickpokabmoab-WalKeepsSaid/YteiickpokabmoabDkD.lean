import Derived.Test.YteiickpokabmoabDkC
namespace Go.Proofs.Yteiickpokabmoab.D
open Go.RowKit

/-- a sector's bytes, as a text -/
theorem sec_str {base : Nat} {w : World} {b g cap : Nat} {vr : Value} {d : DS} (h : DkV base w b (.slice (some ⟨g, 0, none⟩) d.S.length cap) vr d) {k : Nat} (hk : k < d.S.length) :
    (convert 59 9 (.slice (some ⟨g, k * 128, none⟩) 128 128)).run Try.prog w = .ok (.string d.S[k]) w := by
  have hs := h.ok.s128.get hk
  have hl : (d.S[k]).data.toList.length = 128 := by rw [← size_list]; exact hs
  have e := run_convert_bytes_back (P := Try.prog) w 59 9 5 ⟨g, k * 128, none⟩ 128 (d.S[k]).data.toList Try.underlying59 Try.underlying5 Try.underlying9 (by
    intro j hj
    have hg := scs_get h.ok.s128 k j hk (by omega)
    rw [show (sc d.S[k])[j]? = some (.int .u8 (((d.S[k]).data.toList[j]).toNat : Int)) by rw [sc, List.getElem?_map, List.getElem?_eq_getElem hj]; rfl] at hg
    have := h.sec.cells (g := g) rfl (k * 128 + j) _ hg
    rw [Addr.add_lit, Nat.zero_add] at this
    rw [Addr.add_lit]
    exact this)
  rw [hl] at e
  rw [e]

set_option maxHeartbeats 1000000 in
theorem read_any {base : Nat} {w : World} {b : Nat} {F : Nat → Prop} {d : DS} (h : Dk base w b F d) (k : Int) :
    Calls Try.prog 48 #[.pointer (some ⟨b, 0, none⟩), .int .i64 k] w fun e w' => e = .returned (.tuple #[.string (d.read k).1, .int .i64 (d.read k).2]) ∧ w' = w := by
  have hsz := size_any h
  obtain ⟨vs, vr, h, rfl⟩ := h
  obtain ⟨g, cap, hv, hg, hc, hcm⟩ := h.form
  have c2 := h.c2
  have hS := h.ok.s1
  unfold DS.read
  cases hd : d.dead
  · rw [hd] at c2
    simp only [Bool.false_eq_true, if_false]
    by_cases hk : 0 ≤ k ∧ k < (d.S.length : Int)
    · rw [if_neg (by simpa using hk)]
      obtain ⟨n, rfl⟩ : ∃ n : Nat, k = (n : Int) := ⟨k.toNat, by omega⟩
      have hn : n < d.S.length := by omega
      have hcv := sec_str (hv ▸ h) hn
      have c0 := h.c0
      rw [hv] at c0
      have hget : d.S.getD (n : Int).toNat ByteArray.empty = d.S[n] := by rw [Int.toNat_natCast, List.getD_eq_getElem?_getD, List.getElem?_eq_getElem hn]; rfl
      rw [hget]
      generalize d.S[n] = s at *
      have b0 : decide ((0 : Int) ≤ (n : Int)) = true := by simp
      have b1 : decide ((n : Int) < (d.S.length : Int)) = true := by simp; omega
      have HSZ := hide hsz
      clear h hv hk hget hsz
      go_enter Try.func48, Try.ntmps48
      go_wp2_with (first
        | (go_at_call 24; refine HSZ.out.mono ?_; rintro e w1 ⟨rfl, rfl⟩)
        | go_in)
      go_ret2
      exact ⟨rfl, rfl⟩
    · rw [if_pos (by simpa using hk)]
      have HSZ := hide hsz
      by_cases h0 : 0 ≤ k
      · have b0 : decide ((0 : Int) ≤ k) = true := by simp; omega
        have b1 : decide (k < (d.S.length : Int)) = false := by simp; omega
        clear h hv hk h0 hsz
        go_enter Try.func48, Try.ntmps48
        go_wp2_with (first
          | (go_at_call 24; refine HSZ.out.mono ?_; rintro e w1 ⟨rfl, rfl⟩)
          | go_in)
        go_ret2
        exact ⟨rfl, rfl⟩
      · have b0 : decide ((0 : Int) ≤ k) = false := by simp; omega
        clear h hv hk h0 hsz
        go_enter Try.func48, Try.ntmps48
        go_wp2_with (first
          | (go_at_call 24; refine HSZ.out.mono ?_; rintro e w1 ⟨rfl, rfl⟩)
          | go_in)
        go_ret2
        exact ⟨rfl, rfl⟩
  · rw [hd] at c2
    simp only [if_true]
    clear h hv hsz
    go_enter Try.func48, Try.ntmps48
    go_wp2
    go_ret2
    exact ⟨rfl, rfl⟩

theorem Try.infoW : (Try.prog.info? 51).map (fun i => (i.zero, i.size, i.bytes)) = some (some (.agg #[.int .i64 0, .string ByteArray.empty]), 2, 24) := by kernel_rfl
theorem Try.infoC : (Try.prog.info? 48).map (fun i => (i.zero, i.size, i.bytes)) = some (some (.agg (Array.replicate 128 (.int .u8 0))), 128, 128) := by kernel_rfl
theorem Try.infoS : (Try.prog.info? 9).map (fun i => (i.zero, i.size, i.bytes)) = some (some (.string ByteArray.empty), 1, 16) := by kernel_rfl

set_option maxHeartbeats 1000000 in
theorem wclone_any {base : Nat} {w : World} {v : Value} {l : List Wr} (h : w.ownsRow base 51 2 v l.length (wcs l)) (hl : l.length * 24 ≤ 140737488355328) :
    Calls Try.prog 19 #[v] w fun e w' => ∃ v', e = .returned v' ∧ w'.ownsRow w.heap.size 51 2 v' l.length (wcs l) ∧ Below w.heap.size w w' := by
  obtain ⟨i0, hi0, hz0, hz1, hz2⟩ := info_parts Try.infoW
  rcases own_form h with ⟨rfl, hn⟩ | ⟨g, cap, rfl, hg, _⟩
  · have HE : Hid (w.ownsRow w.heap.size 51 2 (.slice none 0 0) l.length (wcs l)) := by
      obtain rfl : l = [] := List.length_eq_zero_iff.1 hn
      exact World.ownsRow_nil _ _ _ _
    have he : ∀ w : World, (binOp .eql 43 (.slice none 0 0) (.slice none 0 0)).run Try.prog w = .ok (.bool true) w := fun _ => by kernel_rfl
    clear h hn
    go_enter Try.func19, Try.ntmps19
    go_wp2
    go_ret
    exact ⟨_, rfl, HE.out, Below.refl _ _⟩
  · have HR := hide h
    have he : ∀ w : World, (binOp .eql 43 (.slice (some ⟨g, 0, none⟩) l.length cap) (.slice none 0 0)).run Try.prog w = .ok (.bool false) w := fun _ => by kernel_rfl
    clear h
    go_enter Try.func19, Try.ntmps19
    go_wp2_with (at_builtin; refine wpList_append_own _ rfl _ _ 43 rfl w.heap.size 51 i0 (.agg #[.int .i64 0, .string ByteArray.empty]) 2 24 Try.underlying43 hi0 hz0 hz1 hz2 rfl (by decide) (.slice (some ⟨w.heap.size, 0, none⟩) 0 0) 0 [] rfl (World.ownsRow_made w #[] 0 (Nat.le_refl _) (by decide) rfl) ⟨g, 0, none⟩ l.length cap (wcs l) rfl (wcs_len l) (fun j u hu => Lib.cell?_alloc_some _ (HR.out.cells (g := g) rfl j u hu)) (wcs_ones l) (by unfold maxLen; omega) (by omega) (by rw [World.size_alloc]; omega) ?_; intro v' w1 hown hgrow hnil)
    go_ret
    rw [Nat.zero_add, List.nil_append] at hown
    exact ⟨_, rfl, hown, ((Below.refl _ w).alloc (Nat.le_refl _) _).grown hgrow (by rw [World.size_alloc]; omega) (fun k hk => by simp only [Value.ownBlock] at hk; injection hk with hk; omega)⟩

set_option maxHeartbeats 1000000 in
theorem sclone_any {base : Nat} {w : World} {v : Value} {S : List ByteArray} (h : w.ownsRow base 48 128 v S.length (scs S)) (h8 : A128 S) (h0 : 0 < S.length) (hl : S.length ≤ 1026) :
    Calls Try.prog 18 #[v] w fun e w' => ∃ v', e = .returned v' ∧ w'.ownsRow w.heap.size 48 128 v' S.length (scs S) ∧ Below w.heap.size w w' := by
  obtain ⟨i0, hi0, hz0, hz1, hz2⟩ := info_parts Try.infoC
  rcases own_form h with ⟨rfl, hn⟩ | ⟨g, cap, rfl, hg, _⟩
  · omega
  · have HR := hide h
    have he : ∀ w : World, (binOp .eql 42 (.slice (some ⟨g, 0, none⟩) S.length cap) (.slice none 0 0)).run Try.prog w = .ok (.bool false) w := fun _ => by kernel_rfl
    clear h
    go_enter Try.func18, Try.ntmps18
    go_wp2_with (at_builtin; refine wpList_append_own _ rfl _ _ 42 rfl w.heap.size 48 i0 (.agg (Array.replicate 128 (.int .u8 0))) 128 128 Try.underlying42 hi0 hz0 hz1 hz2 rfl (by decide) (.slice (some ⟨w.heap.size, 0, none⟩) 0 0) 0 [] rfl (World.ownsRow_made w #[] 0 (Nat.le_refl _) (by decide) rfl) ⟨g, 0, none⟩ S.length cap (scs S) rfl (scs_len h8) (fun j u hu => Lib.cell?_alloc_some _ (HR.out.cells (g := g) rfl j u hu)) (scs_one S) (by unfold maxLen; omega) (by omega) (by rw [World.size_alloc]; omega) ?_; intro v' w1 hown hgrow hnil)
    go_ret
    rw [Nat.zero_add, List.nil_append] at hown
    exact ⟨_, rfl, hown, ((Below.refl _ w).alloc (Nat.le_refl _) _).grown hgrow (by rw [World.size_alloc]; omega) (fun k hk => by simp only [Value.ownBlock] at hk; injection hk with hk; omega)⟩

end Go.Proofs.Yteiickpokabmoab.D
