import Derived.Test.YtjpcghkdedldiaaLsY
namespace Go.Proofs.Ytjpcghkdedldiaa
open Go.RowKit

theorem tk_take {L : List Lz} {i : Nat} (hi : i < L.length) : (1 < (L[i]).left → tkL (L.take (i + 1)) = tkL (L.take i) ++ [dec L[i]] ∧ tkO (L.take (i + 1)) = tkO (L.take i)) ∧ (¬ 1 < (L[i]).left → tkL (L.take (i + 1)) = tkL (L.take i) ∧ tkO (L.take (i + 1)) = tkO (L.take i) ++ [dec L[i]]) := by
  rw [List.take_succ_eq_append_getElem hi]
  constructor
  · intro h
    refine ⟨?_, tkO_snoc_live h⟩
    unfold tkL
    rw [List.filter_append, List.map_append, List.filter_cons_of_pos (by simpa using h)]
    rfl
  · intro h
    refine ⟨?_, tkO_snoc_over h⟩
    unfold tkL
    rw [List.filter_append, List.map_append, List.filter_cons_of_neg (by simpa using h)]
    simp
theorem tkL_len (L : List Lz) : (tkL L).length ≤ L.length := by
  unfold tkL
  rw [List.length_map]
  exact List.length_filter_le _ _
/-- two rows of one's own -/
structure Ow2 (w : World) (v1 v2 : Value) (A B : List Lz) (W : World) : Prop where
  low : Below w.heap.size w W
  r1 : W.ownsRow w.heap.size 54 5 v1 A.length (lcs A)
  r2 : W.ownsRow w.heap.size 54 5 v2 B.length (lcs B)
  ne : v1.ownBlock ≠ v2.ownBlock ∨ v1.ownBlock = none

section
variable {w W W' : World} {v1 v2 : Value} {A B : List Lz}
theorem Ow2.swap (h : Ow2 w v1 v2 A B W) : Ow2 w v2 v1 B A W := ⟨h.low, h.r2, h.r1, by
  rcases h.ne with h1 | h1
  · exact .inl (Ne.symm h1)
  · cases h2 : v2.ownBlock with
    | none => exact .inr rfl
    | some k => rw [h1]; exact .inl (by simp)⟩
theorem Ow2.alloc (h : Ow2 w v1 v2 A B W) (o : Obj) : Ow2 w v1 v2 A B (W.alloc o) := ⟨h.low.alloc h.low.size o, own_alloc h.r1 o, own_alloc h.r2 o, h.ne⟩
theorem Ow2.first {g5 cap5 : Nat} {y : Lz} (h : Ow2 w v1 v2 A B W) (hg : W.grownBy W' v1.ownBlock) (ho : W'.ownsRow w.heap.size 54 5 (.slice (some ⟨g5, 0, none⟩) (A.length + 1) cap5) (A.length + 1) (lcs A ++ y.cs)) (hl : v1.ownBlock = some g5 ∨ g5 = W.heap.size) :
    Ow2 w (.slice (some ⟨g5, 0, none⟩) (A ++ [y]).length cap5) v2 (A ++ [y]) B W' := by
  refine ⟨h.low.grown hg h.low.size (fun k e => (h.r1.lt k e).1), ?_, h.r2.kept hg ?_, .inl ?_⟩
  · rw [lcs_snoc, List.length_append]
    exact ho
  · rcases h.ne with h1 | h1
    · exact .inr (Ne.symm h1)
    · cases h2 : v2.ownBlock with
      | none => exact .inl rfl
      | some k => rw [h1]; exact .inr (by simp)
  · simp only [Value.ownBlock]
    intro e
    rcases hl with h1 | h1
    · rcases h.ne with h2 | h2
      · exact h2 (h1.trans e)
      · rw [h1] at h2; cases h2
    · have := (h.r2.lt g5 e.symm).2
      omega
end

set_option maxRecDepth 100000 in
set_option maxHeartbeats 4000000 in
theorem xtick_any {w : World} {x : Nat} {T : Int} {ad : Option Addr} {ab cap : Nat} {L : List Lz} (h : Xt w x T ad ab cap L) (hl : L.length ≤ 12) (hleft : ∀ y ∈ L, 1 ≤ y.left ∧ y.left ≤ 256) : Calls Try.prog 24 #[.pointer (some ⟨x, 0, none⟩)] w fun e w' => (∃ v, e = .returned v ∧ w'.ownsRow w.heap.size 54 5 v (tkO L).length (lcs (tkO L))) ∧ (∃ ad' ab' cap', Xt w' x T ad' ab' cap' (tkL L)) ∧ w.grownBy w' (some x) := by
  obtain ⟨i0, hi0, hz0, hz1, hz2⟩ := info_parts Try.infoL
  have HX := hide h
  have HLE := hide hleft
  have hlt := h.lt
  have HM0 := hide (own_alloc (World.ownsRow_made (base := w.heap.size) (e := 54) (size := 5) w #[] 0 (Nat.le_refl _) (Nat.zero_le _) rfl) (.cells #[] 54))
  have HM1 : Hid (((w.alloc (.cells #[] 54)).alloc (.cells #[] 54)).ownsRow w.heap.size 54 5 (.slice (some ⟨w.heap.size + 1, 0, none⟩) 0 0) 0 []) := by
    have := World.ownsRow_made (base := w.heap.size) (e := 54) (size := 5) (w.alloc (.cells #[] 54)) #[] 0 (by simp) (Nat.zero_le _) rfl
    rw [World.size_alloc] at this
    exact this
  have HB0 := hide ((below_alloc w (.cells #[] 54)).alloc (by simp) (.cells #[] 54))
  clear h hleft
  go_enter Try.func24, Try.ntmps24
  go_wp2_with fail
  go_loopw [3, 4, 5] (fun s1 s2 s wr => ∃ (i : Nat) (a1 a2 : Option Addr) (c1 c2 : Nat), i ≤ L.length ∧ s1 = .slice a1 (tkL (L.take i)).length c1 ∧ s2 = .slice a2 (tkO (L.take i)).length c2 ∧ s = .int .i64 (i : Int) ∧ Hid (Ow2 w (.slice a1 (tkL (L.take i)).length c1) (.slice a2 (tkO (L.take i)).length c2) (tkL (L.take i)) (tkO (L.take i)) wr)) (fun _ _ s _ => L.length - (intOf s).toNat)
  case atStart => exact ⟨0, some ⟨w.heap.size, 0, none⟩, some ⟨w.heap.size + 1, 0, none⟩, 0, 0, Nat.zero_le _, rfl, rfl, rfl, ⟨HB0.out, HM0.out, HM1.out, .inl (by simp [Value.ownBlock])⟩⟩
  case round =>
    clear HB0 HM0 HM1
    obtain ⟨i, a1, a2, c1, c2, hi, rfl, rfl, rfl, HW⟩ := hrel
    have d1 := (HX.out.below HW.out.low).c1
    by_cases hii : i < L.length
    · have hik : (i : Int) < (L.length : Int) := by omega
      have hat := HX.out.rs.at_ (by omega)
      subst hat
      obtain ⟨q0, q1, q2, q3, q4⟩ := (HX.out.rs.below HW.out.low).eight0 hii
      obtain ⟨hle1, hle2⟩ := HLE.out L[i] (List.getElem_mem hii)
      obtain ⟨t1, t2⟩ := tk_take hii
      have hl1 : (tkL (L.take i)).length ≤ 12 := by have := tkL_len (L.take i); rw [List.length_take] at this; omega
      have hl2 : (tkO (L.take i)).length ≤ 12 := by have := tkO_len (L.take i); rw [List.length_take] at this; omega
      have hsz := HW.out.low.size
      by_cases hlv : 1 < (L[i]).left
      · --LIVE
        obtain ⟨u1, u2⟩ := t1 hlv
        have HU1 := hide u1
        have HU2 := hide u2
        have bq : ((L[i]).left - 1 == 0) = false := by simp; omega
        clear t1 t2 u1 u2 hlv
        generalize L[i] = y at *
        generalize tkL (L.take i) = A at *
        generalize tkO (L.take i) = B at *
        obtain ⟨e0, e1, e2, e3, e4⟩ := five_of (heap_alloc_new wr (dec y).obj)
        have HW2 := hide ((HW.out.alloc (dec y).obj).alloc (dec y).obj)
        have HNW := hide (heap_alloc_new (wr.alloc (dec y).obj) (dec y).obj)
        clear HW
        simp only [dec] at e0 e1 e2 e3 e4
        go_wp2_with (at_builtin; refine wpList_append_lies _ rfl _ _ 42 rfl w.heap.size 54 i0 lz0.val 5 40 Try.underlying42 hi0 hz0 hz1 hz2 rfl (by decide) (.slice a1 A.length c1) A.length (lcs A) rfl HW2.out.r1 ⟨wr.heap.size + 1, 0, none⟩ 1 1 (dec y).cs rfl rfl (World.news_of_block (by have := HNW.out; rw [World.size_alloc] at this; exact this)) (lcs_one_cell [dec y]) (by decide) (by unfold maxLen; omega) (by omega) (by simp; omega) (wr.heap.size + 2) (by simp) ?_; intro g5 cap5 w5 hown5 hgrow5 hg5 _; (have HG55 := hide hg5); clear hg5; (have HO5 := hide hown5); (have HG5 := hide hgrow5); clear hown5 hgrow5)
        have HF := hide (HW2.out.first (y := dec y) HG5.out HO5.out (by have := HG55.out; simpa using this))
        go_roundw
        case rel =>
          refine ⟨i + 1, some ⟨g5, 0, none⟩, a2, cap5, c2, by omega, by rw [HU1.out, List.length_append]; rfl, by rw [HU2.out], by go_num, ?_⟩
          rw [HU1.out, HU2.out]
          exact HF
        case measure => simp only [intOf]; omega
      · --OVER
        obtain ⟨u1, u2⟩ := t2 hlv
        have HU1 := hide u1
        have HU2 := hide u2
        have bq : ((L[i]).left - 1 == 0) = true := by simp; omega
        clear t1 t2 u1 u2 hlv
        generalize L[i] = y at *
        generalize tkL (L.take i) = A at *
        generalize tkO (L.take i) = B at *
        obtain ⟨e0, e1, e2, e3, e4⟩ := five_of (heap_alloc_new wr (dec y).obj)
        have HW2 := hide ((HW.out.alloc (dec y).obj).alloc (dec y).obj)
        have HNW := hide (heap_alloc_new (wr.alloc (dec y).obj) (dec y).obj)
        clear HW
        simp only [dec] at e0 e1 e2 e3 e4
        go_wp2_with (at_builtin; refine wpList_append_lies _ rfl _ _ 42 rfl w.heap.size 54 i0 lz0.val 5 40 Try.underlying42 hi0 hz0 hz1 hz2 rfl (by decide) (.slice a2 B.length c2) B.length (lcs B) rfl HW2.out.r2 ⟨wr.heap.size + 1, 0, none⟩ 1 1 (dec y).cs rfl rfl (World.news_of_block (by have := HNW.out; rw [World.size_alloc] at this; exact this)) (lcs_one_cell [dec y]) (by decide) (by unfold maxLen; omega) (by omega) (by simp; omega) (wr.heap.size + 2) (by simp) ?_; intro g5 cap5 w5 hown5 hgrow5 hg5 _; (have HG55 := hide hg5); clear hg5; (have HO5 := hide hown5); (have HG5 := hide hgrow5); clear hown5 hgrow5)
        have HF := hide (HW2.out.swap.first (y := dec y) HG5.out HO5.out (by have := HG55.out; simpa using this))
        go_roundw
        case rel =>
          refine ⟨i + 1, a1, some ⟨g5, 0, none⟩, c1, cap5, by omega, by rw [HU1.out], by rw [HU2.out, List.length_append]; rfl, by go_num, ?_⟩
          rw [HU1.out, HU2.out]
          exact HF.out.swap
        case measure => simp only [intOf]; omega
    · have hik : ¬ (i : Int) < (L.length : Int) := by omega
      have hti : L.take i = L := List.take_of_length_le (by omega)
      rw [hti] at HW ⊢
      obtain ⟨ab', hR, hRa, hRc⟩ := Rs.own HW.out.r1
      have HS := hide (HX.out.set (cap' := c1) HW.out.low hR hRa hRc)
      have HRR : Hid ((wr.setCell ⟨x, 1, none⟩ (.slice a1 (tkL L).length c1)).ownsRow w.heap.size 54 5 (.slice a2 (tkO L).length c2) (tkO L).length (lcs (tkO L))) := HW.out.r2.kept (grown_cell wr x 1 _) (.inr fun e => by have := (HW.out.r2.lt x e).1; omega)
      have hfz : wr.frozen? ⟨x, 1, none⟩ = false := by have := (HX.out.below HW.out.low).blk; simp [World.frozen?, this]
      clear hR hRa hRc
      go_wp2_with fail
      go_ret
      exact ⟨⟨_, rfl, HRR.out⟩, ⟨a1, ab', c1, HS.out.1⟩, HS.out.2⟩
end Go.Proofs.Ytjpcghkdedldiaa
