import Derived.Test.YtkchddphmkgilaaQuN
namespace Go.Proofs.Ytkchddphmkgilaa
open Go.RowKit

section
variable {T base : Nat} {w : World} {b : Nat} {v : Value} {L : List Rr} {m : Int}
theorem Qm.far (h : Qm T base w b v m L) {X : Nat} (hX : ¬ Ft b v X) (o : Nat) (x : Value) : Qm T base (w.setCell ⟨X, o, none⟩ x) b v m L :=
  h.keep fun k hk => Below.heap_setCell _ ⟨X, o, none⟩ _ k (show k ≠ X from fun e => hX (by rw [← e]; exact hk))
theorem mv_far {F F' : Nat → Prop} {w w' : World} (h : Mv F F' w w') {X : Nat} (hX : w.heap.size ≤ X) (o : Nat) (x : Value) : Mv F F' w (w'.setCell ⟨X, o, none⟩ x) :=
  ⟨h.os, h.tape, h.output, by rw [setCell_size]; exact h.size, fun k hk hn => (Below.heap_setCell _ ⟨X, o, none⟩ _ k (show k ≠ X by omega)).trans (h.block k hk hn), h.foot⟩
/-- what Open tells -/
def opn (m : Int) (L : List Rr) : Int × Int := L.foldl (opF m) (0, 0)
set_option maxHeartbeats 1000000 in
set_option maxRecDepth 8000 in
theorem qopen_any (h : Qm 47 base w b v m L) (hk : Ok m L) : Calls Try.prog 34 #[.pointer (some ⟨b, 0, none⟩)] w fun e w' => e = .returned (.tuple #[.int .i64 (opn m L).1, .int .i64 (opn m L).2]) ∧ Below w.heap.size w w' := by
  obtain ⟨ad, cap, ab, rfl, hR, _⟩ := h.form
  have hmf : ∀ (fn : Fn) (first cap : Array Value) (w : World), (Instr.makeFunc fn first cap).run Try.prog w = .ok (.func fn first cap) w := fun _ _ _ _ => rfl
  have hlt := h.lt
  have hl := hk.len
  have m1 := hk.m1
  have m8 := hk.m8
  have hp : (w.alloc (.cells #[.pointer (some ⟨b, 0, none⟩)] 31)).cell? ⟨w.heap.size, 0, none⟩ = some (.pointer (some ⟨b, 0, none⟩)) := by rw [World.cell?_alloc_at _ _ _ _ rfl]; rfl
  have c0 : (w.alloc (.cells #[.pointer (some ⟨b, 0, none⟩)] 31)).cell? ⟨b, 0, none⟩ = some (.int .i64 m) := Lib.cell?_alloc_some _ h.c0
  have c1 : (w.alloc (.cells #[.pointer (some ⟨b, 0, none⟩)] 31)).cell? ⟨b, 1, none⟩ = some (.slice ad L.length cap) := Lib.cell?_alloc_some _ h.c1
  have HB := hide (below_alloc w (.cells #[.pointer (some ⟨b, 0, none⟩)] 31))
  have hst : ∀ (i : Nat) (a : Int × Int) (r : Rr), i < 8 → 0 ≤ a.1 ∧ a.1 ≤ i ∧ 0 ≤ a.2 ∧ a.2 ≤ 8 * i → 0 ≤ r.att → r.att ≤ m → 0 ≤ (opF m a r).1 ∧ (opF m a r).1 ≤ (i + 1 : Nat) ∧ 0 ≤ (opF m a r).2 ∧ (opF m a r).2 ≤ 8 * (i + 1 : Nat) := by
    intro i a r hi ha h0 h1
    unfold opF
    split
    · show 0 ≤ a.1 + 1 ∧ a.1 + 1 ≤ _ ∧ 0 ≤ a.2 + m - r.att ∧ a.2 + m - r.att ≤ _
      omega
    · omega
  have HA := hide (askS_any (cap := cap) (hR.below (below_alloc w (.cells #[.pointer (some ⟨b, 0, none⟩)] 31))) (by omega) 49 #[.pointer (some ⟨w.heap.size, 0, none⟩)] (opF m) (fun i a => 0 ≤ a.1 ∧ a.1 ≤ i ∧ 0 ≤ a.2 ∧ a.2 ≤ 8 * i) (0, 0) (by simp) (fun _ _ _ => rfl)
    (fun w1 i hi a hB hP => ⟨hst i a L[i] (by omega) hP (hk.att i hi).1 (hk.att i hi).2, open1_any ((World.cell?_of_block (hB.block _ (World.block_lt_of_cell? _ _ hp))).trans hp) ((World.cell?_of_block (hB.block _ (World.block_lt_of_cell? _ _ c0))).trans c0) (by omega) (by omega) a (by omega) (by omega) (by omega) (by omega) L[i] (hk.att i hi).1 (by have := (hk.att i hi).2; omega)⟩))
  have HO : Hid (opn m L = L.foldl (opF m) (0, 0)) := hide rfl
  generalize L.foldl (opF m) (0, 0) = S at *
  clear h hR hk hst m1 m8 c0 hp
  go_enter Try.func34, Try.ntmps34
  go_wp2_with fail
  generalize w.alloc (.cells #[.pointer (some ⟨b, 0, none⟩)] 31) = W0 at *
  refine HA.out.mono ?_
  rintro e w2 ⟨rfl, hB2⟩
  have HB2 := hide (HB.out.trans (hB2.mono HB.out.size))
  clear HA HB hB2 c1
  go_wp2_with fail
  go_quiet (fail)
  go_wp2
  go_ret2
  exact ⟨by rw [HO.out]; rfl, below_drewN (HB2.out.alloc HB2.out.size _) _⟩
set_option maxHeartbeats 1000000 in
set_option maxRecDepth 8000 in
theorem qclone_any (h : Qm 47 base w b v m L) (hl : L.length ≤ 8) : Calls Try.prog 15 #[.pointer (some ⟨b, 0, none⟩)] w fun e w' => ∃ b' v', e = .returned (.pointer (some ⟨b', 0, none⟩)) ∧ Qm 47 w.heap.size w' b' v' m L ∧ Below w.heap.size w w' := by
  obtain ⟨ad, cap, ab, rfl, hR, _⟩ := h.form
  have HC := hide (fun V (hV : Below w.heap.size w V) => (⟨(h.below hV).c0, (h.below hV).c1⟩ : V.cell? ⟨b, 0, none⟩ = some (.int .i64 m) ∧ V.cell? ⟨b, 1, none⟩ = some (.slice ad L.length cap)))
  have HA := hide (fun V (hV : Below w.heap.size w V) => copied_any (cap := cap) (hR.below hV) (by omega))
  clear h hR
  go_enter Try.func15, Try.ntmps15
  go_wp2_with fail
  refine wp_region_held_drew (S := fun w' => Below w.heap.size w w') (by kernel_rfl) (⟨rfl, rfl, rfl, Nat.le_refl _, fun _ _ => rfl⟩) (fun hHeld => ?_)
  refine wpAnyH_take (i := 0) (v := .pointer (some ⟨b, 0, none⟩)) rfl (by kernel_rfl) (by kernel_rfl) (by kernel_rfl) (fun _ _ _ h => h) (Or.inl ⟨by kernel_rfl, fun w1 hSw => by clear hHeld; obtain ⟨k0, k1⟩ := HC.out _ hSw; go_simp⟩) hHeld ?_
  try simp only [Act.put]
  try simp only [List.getElem_toArray]
  try simp only [List.getElem_cons_succ]
  try simp only [List.getElem_cons_zero]
  try simp only [List.setIfInBounds_toArray]
  try simp only [List.set_cons_succ, List.set_cons_zero]
  refine wpAnyH_take (i := 1) (v := .pointer (some ⟨b, 0, none⟩)) rfl (by kernel_rfl) (by kernel_rfl) (by kernel_rfl) (fun _ _ _ h => h) (Or.inl ⟨by kernel_rfl, fun w1 hSw => by clear hHeld; obtain ⟨k0, k1⟩ := HC.out _ hSw; go_simp⟩) hHeld ?_
  try simp only [Act.put]
  try simp only [List.getElem_toArray]
  try simp only [List.getElem_cons_succ]
  try simp only [List.getElem_cons_zero]
  try simp only [List.setIfInBounds_toArray]
  try simp only [List.set_cons_succ, List.set_cons_zero]
  refine wpAnyH_take (i := 2) (v := .pointer (some ⟨b, 0, none⟩)) rfl (by kernel_rfl) (by kernel_rfl) (by kernel_rfl) (fun _ _ _ h => h) (Or.inl ⟨by kernel_rfl, fun w1 hSw => by clear hHeld; obtain ⟨k0, k1⟩ := HC.out _ hSw; go_simp⟩) hHeld ?_
  try simp only [Act.put]
  try simp only [List.getElem_toArray]
  try simp only [List.getElem_cons_succ]
  try simp only [List.getElem_cons_zero]
  try simp only [List.setIfInBounds_toArray]
  try simp only [List.set_cons_succ, List.set_cons_zero]
  refine wpAnyH_take (i := 3) (v := .int .i64 m) rfl (by kernel_rfl) (by kernel_rfl) (by kernel_rfl) (fun _ _ _ h => h) (Or.inl ⟨by kernel_rfl, fun w1 hSw => by clear hHeld; obtain ⟨k0, k1⟩ := HC.out _ hSw; go_simp⟩) hHeld ?_
  try simp only [Act.put]
  try simp only [List.getElem_toArray]
  try simp only [List.getElem_cons_succ]
  try simp only [List.getElem_cons_zero]
  try simp only [List.setIfInBounds_toArray]
  try simp only [List.set_cons_succ, List.set_cons_zero]
  refine wpAnyH_take (i := 4) (v := .pointer (some ⟨b, 0, none⟩)) rfl (by kernel_rfl) (by kernel_rfl) (by kernel_rfl) (fun _ _ _ h => h) (Or.inl ⟨by kernel_rfl, fun w1 hSw => by clear hHeld; obtain ⟨k0, k1⟩ := HC.out _ hSw; go_simp⟩) hHeld ?_
  try simp only [Act.put]
  try simp only [List.getElem_toArray]
  try simp only [List.getElem_cons_succ]
  try simp only [List.getElem_cons_zero]
  try simp only [List.setIfInBounds_toArray]
  try simp only [List.set_cons_succ, List.set_cons_zero]
  refine wpAnyH_take (i := 5) (v := .pointer (some ⟨b, 0, none⟩)) rfl (by kernel_rfl) (by kernel_rfl) (by kernel_rfl) (fun _ _ _ h => h) (Or.inl ⟨by kernel_rfl, fun w1 hSw => by clear hHeld; obtain ⟨k0, k1⟩ := HC.out _ hSw; go_simp⟩) hHeld ?_
  try simp only [Act.put]
  try simp only [List.getElem_toArray]
  try simp only [List.getElem_cons_succ]
  try simp only [List.getElem_cons_zero]
  try simp only [List.setIfInBounds_toArray]
  try simp only [List.set_cons_succ, List.set_cons_zero]
  refine wpAnyH_take (i := 6) (v := .pointer (some ⟨b, 1, none⟩)) rfl (by kernel_rfl) (by kernel_rfl) (by kernel_rfl) (fun _ _ _ h => h) (Or.inl ⟨by kernel_rfl, fun w1 hSw => by clear hHeld; obtain ⟨k0, k1⟩ := HC.out _ hSw; go_simp⟩) hHeld ?_
  try simp only [Act.put]
  try simp only [List.getElem_toArray]
  try simp only [List.getElem_cons_succ]
  try simp only [List.getElem_cons_zero]
  try simp only [List.setIfInBounds_toArray]
  try simp only [List.set_cons_succ, List.set_cons_zero]
  refine wpAnyH_take (i := 7) (v := .slice ad L.length cap) rfl (by kernel_rfl) (by kernel_rfl) (by kernel_rfl) (fun _ _ _ h => h) (Or.inl ⟨by kernel_rfl, fun w1 hSw => by clear hHeld; obtain ⟨k0, k1⟩ := HC.out _ hSw; go_simp⟩) hHeld ?_
  try simp only [Act.put]
  try simp only [List.getElem_toArray]
  try simp only [List.getElem_cons_succ]
  try simp only [List.getElem_cons_zero]
  try simp only [List.setIfInBounds_toArray]
  try simp only [List.set_cons_succ, List.set_cons_zero]
  refine wpAnyH_ready (rs := [8]) (by kernel_rfl) (by simp) ?_
  refine AllReadyH.cons rfl (fun K hK => ?_) AllReadyH.nil
  go_simp
  refine (HA.out _ hHeld).mono ?_
  rintro e w2 ⟨rfl, ho2, hB2⟩
  have HO2 := hide ho2
  have HB2 := hide hB2
  have hHeld0 := hHeld
  refine hK.out _ _ (hHeld.trans (hB2.mono hHeld.size)) (fun hHeld => ?_)
  clear hK K
  try simp only [Act.put]
  try simp only [List.getElem_toArray]
  try simp only [List.getElem_cons_succ]
  try simp only [List.getElem_cons_zero]
  try simp only [List.setIfInBounds_toArray]
  try simp only [List.set_cons_succ, List.set_cons_zero]
  refine wpAnyH_take (i := 9) (v := .agg #[.int .i64 m, .slice (some ⟨w.heap.size, 0, none⟩) L.length L.length]) rfl (by kernel_rfl) (by kernel_rfl) (by kernel_rfl) (fun _ _ _ h => h) (Or.inl ⟨by kernel_rfl, fun w1 hSw => by clear hHeld; obtain ⟨k0, k1⟩ := HC.out _ hSw; go_simp⟩) hHeld ?_
  try simp only [Act.put]
  try simp only [List.getElem_toArray]
  try simp only [List.getElem_cons_succ]
  try simp only [List.getElem_cons_zero]
  try simp only [List.setIfInBounds_toArray]
  try simp only [List.set_cons_succ, List.set_cons_zero]
  refine wpAnyH_ready (rs := [10]) (by kernel_rfl) (by simp) ?_
  refine AllReadyH.cons rfl (fun K hK => ?_) AllReadyH.nil
  go_simp
  refine hK.out _ _ (hHeld.alloc hHeld.size _) (fun hHeld => ?_)
  clear hK K
  try simp only [Act.put]
  try simp only [List.getElem_toArray]
  try simp only [List.getElem_cons_succ]
  try simp only [List.getElem_cons_zero]
  try simp only [List.setIfInBounds_toArray]
  try simp only [List.set_cons_succ, List.set_cons_zero]
  refine wpAnyH_take (i := 11) (v := .pointer (some ⟨w2.heap.size, 0, none⟩)) rfl (by kernel_rfl) (by kernel_rfl) (by kernel_rfl) (fun _ _ _ h => h) (Or.inl ⟨by kernel_rfl, fun w1 hSw => by clear hHeld; obtain ⟨k0, k1⟩ := HC.out _ hSw; go_simp⟩) hHeld ?_
  try simp only [Act.put]
  try simp only [List.getElem_toArray]
  try simp only [List.getElem_cons_succ]
  try simp only [List.getElem_cons_zero]
  try simp only [List.setIfInBounds_toArray]
  try simp only [List.set_cons_succ, List.set_cons_zero]
  refine wpAnyH_done (by kernel_rfl) ?_ _
  have HBf := hide hHeld
  clear hHeld
  go_wp2_with fail
  go_ret
  have hlt2 : w.heap.size < w2.heap.size := (HO2.out.lt w.heap.size rfl).2
  refine ⟨w2.heap.size, .slice (some ⟨w.heap.size, 0, none⟩) L.length L.length, rfl, ⟨heap_alloc_new w2 _, by omega, ?_, ?_⟩, HBf.out⟩
  · have h3 := HO2.out
    refine ⟨h3.1, ?_⟩
    rcases h3.2 with h4 | ⟨g, c, cur, he, hg, hh, h5⟩
    · exact .inl h4
    · exact .inr ⟨g, c, cur, he, hg, (Below.heap_alloc _ _ _ (lt_of_block hh)).trans hh, h5⟩
  · simp only [Value.ownBlock]; intro e; injection e with e; omega

end
end Go.Proofs.Ytkchddphmkgilaa
