import Derived.Test.YtkchddphmkgilaaQuO
namespace Go.Proofs.Ytkchddphmkgilaa
open Go.RowKit

/-- a new row -/
def nrow (k : Int) : Rr := ⟨k, 1, 0, 0, 0, 0, 0, 0⟩
section
variable {base : Nat} {w : World} {b : Nat} {v : Value} {L : List Rr} {m : Int}
theorem Qm.appended {T : Nat} {w2 : World} {o6 : Obj} {g cap : Nat} {r : Rr} (h : Qm T base w b v m L)
    (hown : w2.ownsRow base 30 8 (.slice (some ⟨g, 0, none⟩) (L.length + 1) cap) (L.length + 1) (rcs L ++ r.cs)) (hg : (w.alloc o6).grownBy w2 v.ownBlock) (hat : v.ownBlock = some g ∨ g = w.heap.size + 1) :
    Qm T base (w2.setCell ⟨b, 1, none⟩ (.slice (some ⟨g, 0, none⟩) (L.length + 1) cap)) b (.slice (some ⟨g, 0, none⟩) (L.length + 1) cap) m (L ++ [r]) ∧ Mv (Ft b v) (Ft b (.slice (some ⟨g, 0, none⟩) (L.length + 1) cap)) w (w2.setCell ⟨b, 1, none⟩ (.slice (some ⟨g, 0, none⟩) (L.length + 1) cap)) := by
  have hlt := h.lt
  have hgb : g ≠ b := by
    rcases hat with h1 | h1
    · exact fun e => h.apt (by rw [← e]; exact h1)
    · omega
  have hsz : (w.alloc o6).heap.size = w.heap.size + 1 := World.size_alloc _ _
  have hb2 : w2.heap[b]? = some (.cells #[.int .i64 m, v] T (0, 0)) := (hg.block b (by omega) (fun e => h.apt e.symm)).trans ((h.alloc o6).blk)
  have hl : (L ++ [r]).length = L.length + 1 := by simp
  have hd : rcs (L ++ [r]) = rcs L ++ r.cs := by rw [rcs_append, rcs_one]
  refine ⟨Qm.put1 hb2 h.low (by rw [hl, hd]; exact hown) (by simp only [Value.ownBlock]; intro e; injection e with e; exact hgb e), ?_⟩
  refine ⟨hg.os, hg.tape, hg.output, ?_, fun k hk hn => ?_, fun k hk => ?_⟩
  · have h1 := hg.size
    rw [setCell_size]
    omega
  · rw [Below.heap_setCell w2 ⟨b, 1, none⟩ _ k (fun e => hn (.inl e)), hg.block k (by omega) (fun e => hn (.inr e.symm))]
    exact Below.heap_alloc w o6 k hk
  · rcases hk with rfl | hk
    · exact .inl (.inl rfl)
    · simp only [Value.ownBlock] at hk
      injection hk with hk
      subst hk
      rcases hat with h1 | h1
      · exact .inl (.inr h1)
      · exact .inr (by omega)
set_option maxHeartbeats 1000000 in
set_option maxRecDepth 8000 in
theorem submit_yes (h : Qm 47 base w b v m L) (hl : L.length < 8) : Calls Try.prog 21 #[.pointer (some ⟨b, 0, none⟩)] w fun e w' => e = .returned (.tuple #[.int .i64 ((L.length : Int) + 1), .int .i64 0]) ∧ ∃ v', Qm 47 base w' b v' m (L ++ [nrow ((L.length : Int) + 1)]) ∧ Mv (Ft b v) (Ft b v') w w' := by
  obtain ⟨i0, hi, hz0, hz1, hz2⟩ := info_parts Try.infoR
  obtain ⟨ad, cap, ab, rfl, _, _⟩ := h.form
  have hlt := h.lt
  have c1 := h.c1
  have hbase : base ≤ w.heap.size := Nat.le_trans h.low (Nat.le_of_lt hlt)
  have hlI : ¬ (8 : Int) ≤ (L.length : Int) := by omega
  have HQ := hide h
  clear h
  go_enter Try.func21, Try.ntmps21
  go_wp2_with (at_builtin; refine wpList_append_lies _ rfl _ _ 22 rfl base 30 i0 rr0.val 8 64 Try.underlying22 hi hz0 hz1 hz2 rfl (by decide) (.slice ad L.length cap) L.length (rcs L) rfl ((HQ.out.alloc _).row) ⟨w.heap.size, 0, none⟩ 1 1 [.int .i64 ((L.length : Int) + 1), .int .i64 1, .int .i64 0, .int .i64 0, .int .i64 0, .int .i64 0, .int .i64 0, .int .u64 0] rfl rfl (World.news_of_block (cs := #[.int .i64 ((L.length : Int) + 1), .int .i64 1, .int .i64 0, .int .i64 0, .int .i64 0, .int .i64 0, .int .i64 0, .int .u64 0]) (t := 30) (fr := (0, 0)) (heap_alloc_new w _)) (by simp [Value.oneCell']) (by decide) (by unfold maxLen; omega) (by omega) (by rw [World.size_alloc]; omega) (w.heap.size + 1) (by rw [World.size_alloc]) ?_; intro g cap' w2 hown hgrow hat hlt2; (have c2 : w2.cell? ⟨b, 1, none⟩ = some (.slice ad L.length cap) := hgrow.cell (Lib.cell?_alloc_some _ c1) (fun e => HQ.out.apt e.symm)); (have z2 : w2.frozen? ⟨b, 1, none⟩ = false := (hgrow.frozen_far ⟨b, 1, none⟩ (by show b < (w.alloc _).heap.size; rw [World.size_alloc]; omega) (fun e => HQ.out.apt e.symm)).trans ((HQ.out.alloc _).z 1)))
  obtain ⟨hq2, hm2⟩ := HQ.out.appended (r := nrow ((L.length : Int) + 1)) hown hgrow hat
  have HQ2 := hide hq2
  have HM2 := hide hm2
  clear hq2 hm2 hown hgrow hat c1
  go_ret2
  exact ⟨rfl, _, HQ2.out, HM2.out⟩
set_option maxHeartbeats 1000000 in
theorem submit_no (h : Qm 47 base w b v m L) (hl : 8 ≤ L.length) : Calls Try.prog 21 #[.pointer (some ⟨b, 0, none⟩)] w fun e w' => e = .returned (.tuple #[.int .i64 0, .int .i64 110]) ∧ w' = w := by
  obtain ⟨ad, cap, ab, rfl, _, _⟩ := h.form
  have c1 := h.c1
  have hlI : (8 : Int) ≤ (L.length : Int) := by omega
  clear h
  go_enter Try.func21, Try.ntmps21
  go_wp2
  go_ret2
  exact ⟨rfl, rfl⟩
end
end Go.Proofs.Ytkchddphmkgilaa
