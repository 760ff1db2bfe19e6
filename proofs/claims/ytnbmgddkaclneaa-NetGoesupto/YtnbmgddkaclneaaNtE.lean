import Derived.Test.YtnbmgddkaclneaaNtB
import Derived.Test.YtnbmgddkaclneaaNtD
namespace Go.Proofs.Ytnbmgddkaclneaa
open Go.RowKit

theorem Try.infoD2 : (Try.prog.info? 46).map (fun i => (i.zero, i.size, i.bytes)) = some (some (.agg #[.int .i64 0, .int .i64 0, .int .i64 0, .int .i64 0, .int .i64 0, .string ByteArray.empty]), 6, 56) := by kernel_rfl
theorem erase_eq {α : Type} (l : List α) (i : Nat) : l.eraseIdx i = l.take i ++ l.drop (i + 1) := List.eraseIdx_eq_take_drop_succ l i

set_option maxHeartbeats 2000000 in
set_option maxRecDepth 8000 in
theorem delete_any {base : Nat} {w : World} {g cap i : Nat} {l : List Dg} (h : w.ownsRow base 46 6 (.slice (some ⟨g, 0, none⟩) l.length cap) l.length (dcs l)) (hi : i < l.length) :
    Calls Try.prog 29 #[.slice (some ⟨g, 0, none⟩) l.length cap, .int .i64 (i : Int), .int .i64 ((i : Int) + 1)] w fun e w' =>
      e = .returned (.slice (some ⟨g, 0, none⟩) (l.length - 1) cap) ∧ w'.ownsRow base 46 6 (.slice (some ⟨g, 0, none⟩) (l.length - 1) cap) (l.eraseIdx i).length (dcs (l.eraseIdx i)) ∧ w.grownBy w' (some g) := by
  obtain ⟨i0, hi0, hz0, hz1, hz2⟩ := info_parts Try.infoD2
  rcases h.2 with ⟨h1, _⟩ | ⟨g', cap', cur, h1, hb, hg, hnc, hcm, hs, ht⟩
  · cases h1
  injection h1 with e1 e2 e3
  injection e1 with e1
  injection e1 with e1
  subst e1; subst e3
  have hcap : cap ≤ 9223372036854775807 := by unfold maxLen at hcm; omega
  have hcell : ∀ k, k < cap * 6 → ∃ u, w.cell? ⟨g, k, none⟩ = some u := fun k hk => by
    simp only [World.cell?, hg]
    exact ⟨cur[k]'(by omega), by simp [Array.getElem?_eq_getElem (show k < cur.size by omega)]⟩
  have hfz : ∀ k, w.frozen? ⟨g, k, none⟩ = false := fun k => by simp [World.frozen?, hg]
  -- the cells that are moved
  obtain ⟨news, hnews⟩ : ∃ news, news = dcs (l.drop (i + 1)) := ⟨_, rfl⟩
  have hlen : news.length = (l.length - (i + 1)) * 6 := by rw [hnews, dcs_len, List.length_drop]
  obtain ⟨A, hA, hsrc⟩ : ∃ A : Addr, (if cap = i + 1 then some (⟨g, 0, none⟩ : Addr) else some ⟨g, (i + 1) * 6, none⟩) = some A ∧ Hid (∀ t u, news[t]? = some u → w.drew.cell? (A.add t) = some u) := by
    by_cases hc : cap = i + 1
    · refine ⟨⟨g, 0, none⟩, by simp [hc], fun t u hu => ?_⟩
      have h0 : news.length = 0 := by rw [hlen]; omega
      rw [List.length_eq_zero_iff.1 h0] at hu
      simp at hu
    · refine ⟨⟨g, (i + 1) * 6, none⟩, by simp [hc], fun t u hu => ?_⟩
      rw [hnews, ← dcs_drop, List.getElem?_drop] at hu
      have := h.cells (g := g) rfl ((i + 1) * 6 + t) u hu
      rw [Addr.add_lit, Nat.zero_add] at this
      rw [Addr.add_lit]
      exact this
  have s1 : Hid (news.length = (l.length - (i + 1)) * 6) := hlen
  have s2 : Hid (∀ u ∈ news, u.oneCell' = true) := by intro u hu; rw [hnews] at hu; exact dcs_one_cell _ u hu
  have s3 : Hid (∀ t, t < news.length → (w.drew.cell? ⟨g, 0 + i * 6 + t, none⟩).isSome = true ∧ w.drew.frozen? ⟨g, 0 + i * 6 + t, none⟩ = false) := by
    intro t ht
    rw [hlen] at ht
    obtain ⟨u, hu⟩ := hcell (0 + i * 6 + t) (by omega)
    exact ⟨by show (w.cell? _).isSome = true; rw [hu]; rfl, hfz _⟩
  obtain ⟨W1, hW1⟩ : ∃ W1, W1 = w.drew.setCells g (0 + i * 6) news := ⟨_, rfl⟩
  have hg1 : W1.heap[g]? = some (.cells (cur.toList.take (i * 6) ++ news ++ cur.toList.drop (i * 6 + news.length)).toArray 46 (0, 0)) := by
    rw [hW1, Nat.zero_add]
    exact heap_setCells g _ _ news (i * 6) cur w.drew hg (by rw [hlen]; omega)
  have hgr1 : w.grownBy W1 (some g) := by
    have := grown_setCells w.drew g (0 + i * 6) news
    rw [hW1]
    exact ⟨this.os, this.tape, this.output, this.size, this.block⟩
  have hl1 : (cur.toList.take (i * 6) ++ news ++ cur.toList.drop (i * 6 + news.length)).length = cap * 6 := by
    simp only [List.length_append, List.length_take, List.length_drop, Array.length_toList, hs, hlen]
    omega
  have ht1 : (cur.toList.take (i * 6) ++ news ++ cur.toList.drop (i * 6 + news.length)).take ((l.length - 1) * 6) = dcs (l.eraseIdx i) := by
    have e0 : cur.toList.take (i * 6) = dcs (l.take i) := by
      rw [← dcs_take, ← ht, List.take_take, Nat.min_eq_left (by omega)]
    have e1 : (cur.toList.take (i * 6) ++ news).length = (l.length - 1) * 6 := by
      rw [e0, List.length_append, dcs_len, hlen, List.length_take]; omega
    rw [← e1, List.take_left, e0, hnews, ← dcs_append, erase_eq]
  have hcl : ∀ ty c, (Builtin.clear_ #[28] ty #[.slice (some ⟨g, (l.length - 1) * 6, none⟩) (l.length - (l.length - 1)) c]).run Try.prog W1 = .ok (.tuple #[]) (W1.setCells g ((l.length - 1) * 6) dg0.cs) := fun ty c => by
    rw [show l.length - (l.length - 1) = 1 by omega]
    exact clear_one W1 ty g _ c (fun j hj => by
      simp only [World.cell?, hg1]
      simp; omega) (fun j hj => by simp [World.frozen?, hg1])
  have HEND : Hid ((W1.setCells g ((l.length - 1) * 6) dg0.cs).ownsRow base 46 6 (.slice (some ⟨g, 0, none⟩) (l.length - 1) cap) (l.eraseIdx i).length (dcs (l.eraseIdx i)) ∧ w.grownBy (W1.setCells g ((l.length - 1) * 6) dg0.cs) (some g)) := by
    have hle : (l.eraseIdx i).length = l.length - 1 := List.length_eraseIdx_of_lt hi
    have hg2 := heap_setCells g 46 (0, 0) dg0.cs ((l.length - 1) * 6) _ W1 hg1 (by rw [List.size_toArray, hl1]; show _ + 6 ≤ _; omega)
    refine ⟨⟨dcs_len _, .inr ⟨g, cap, _, by rw [hle], hb, hg2, by omega, hcm, ?_, ?_⟩⟩, ?_⟩
    · simp only [List.size_toArray, List.length_append, List.length_take, List.length_drop, hl1]
      show min _ _ + 6 + (_ - (_ + 6)) = _
      omega
    · rw [hle]
      simp only [List.append_assoc]
      rw [List.take_append_of_le_length (by rw [List.length_take]; simp only [List.append_assoc] at hl1; rw [hl1]; omega), List.take_take, Nat.min_self]
      simp only [List.append_assoc] at ht1
      exact ht1
    · have := grown_setCells W1 g ((l.length - 1) * 6) dg0.cs
      exact ⟨this.os.trans hgr1.os, this.tape.trans hgr1.tape, this.output.trans hgr1.output, Nat.le_trans hgr1.size this.size, fun k hk hn => (this.block k (Nat.lt_of_lt_of_le hk hgr1.size) hn).trans (hgr1.block k hk hn)⟩
  have hW : Hid (W1 = w.drew.setCells g (0 + i * 6) news) := hW1
  have hic : i ≤ cap := by omega
  have hp0 : (0 : Int) ≤ (i : Int) + 1 := by omega
  have hp1 : (i : Int) + 1 ≤ (l.length : Int) := by omega
  have hp2 : ((i : Int) + 1).toNat = i + 1 := by omega
  have bq : ((i : Int) == (i : Int) + 1) = false := by rw [beq_eq_false_iff_ne]; omega
  have hsum : i + (l.length - (i + 1)) = l.length - 1 := by omega
  clear hW1 hg1 hgr1 hl1 ht1 hcell hfz hnews hlen hg hs ht h
  go_enter Try.func29, Try.ntmps29
  go_wp2_with fail
  go_region_law (refine step_append_room rfl (.tmp 22) (.tmp 25) 28 rfl 46 i0 6 Try.underlying28 hi0 hz1 g 0 i cap (by simp [Act.eval, Act.put]) A (l.length - (i + 1)) (cap - (i + 1)) news (by simp [Act.eval, Act.put]) s1.out hsrc.out s2.out (by omega) s3.out ?_; rw [← hW.out])
  all_goals go_wp2
  all_goals go_ret
  all_goals exact ⟨rfl, HEND.out.1, HEND.out.2⟩
end Go.Proofs.Ytnbmgddkaclneaa
