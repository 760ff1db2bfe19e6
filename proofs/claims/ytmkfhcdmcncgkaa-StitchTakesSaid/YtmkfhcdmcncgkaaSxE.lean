import Derived.Test.YtmkfhcdmcncgkaaSxD
namespace Go.Proofs.Ytmkfhcdmcncgkaa
open Go.RowKit Go.Shelf

/-- two sorted lists of the same members are one -/
theorem sorted_eq : ∀ {A B : List Int}, A.Pairwise (· ≤ ·) → B.Pairwise (· < ·) → A.Perm B → A = B
  | [], B, _, _, p => p.nil_eq
  | a :: A, [], _, _, p => absurd p.length_eq (by simp)
  | a :: A, b :: B, hA, hB, p => by
    obtain ⟨a1, a2⟩ := List.pairwise_cons.1 hA
    obtain ⟨b1, b2⟩ := List.pairwise_cons.1 hB
    have e : a = b := by
      have h1 : a ∈ b :: B := p.mem_iff.1 (.head _)
      have h2 : b ∈ a :: A := p.mem_iff.2 (.head _)
      rcases List.mem_cons.1 h1 with h1 | h1
      · exact h1
      · rcases List.mem_cons.1 h2 with h2 | h2
        · exact h2.symm
        · have := b1 a h1; have := a1 b h2; omega
    subst e
    rw [sorted_eq a2 b2 (List.perm_cons a |>.1 p)]
theorem nos_rise {L : List Hx} (h : Rise L) : (nos L).Pairwise (· < ·) := List.pairwise_map.2 h
theorem sort_nos {L : List Hx} (h : Rise L) {ys : List Int} (hp : ys.Perm (nos L)) : ys.mergeSort (fun x y => decide (x ≤ y)) = nos L := by
  refine sorted_eq ?_ (nos_rise h) ((List.mergeSort_perm _ _).trans hp)
  have := List.pairwise_mergeSort (le := fun x y : Int => decide (x ≤ y)) (fun a b c h1 h2 => by simp at *; omega) (fun a b => by simp; omega) ys
  exact this.imp fun h => by simpa using h

/-- slices.Sort's two contracts, as slices.Sorted wants them -/
theorem sorts (m : Nat) : AnyZI.SortsIn Try.prog Try.sortedL_ren Fence.wide m :=
  ⟨fun blk off cap ss W hH hblk hsz => callsIn_wide.2 (AnyM.slices_Sort_int Try.sortL blk off cap ss W hH hblk hsz),
   fun p cap W => callsIn_wide.2 (AnyM.slices_Sort_int_none Try.sortL p cap W)⟩

set_option maxHeartbeats 1000000 in
/-- slices.Sorted of a map's keys -/
theorem sorted_any {w : World} {Bs m : Nat} {L : List Hx} (hBl : Bs < w.heap.size) (hBs : w.cell? ⟨Bs, 0, none⟩ = some (.map (some m))) (hL : Lm w m L) (hl : L.length ≤ 1000) :
    Calls Try.prog 19 #[.func (.func 24) #[] #[.pointer (some ⟨Bs, 0, none⟩)]] w fun e w' =>
      ∃ v, e = .returned v ∧ w'.ownsRow w.heap.size 3 1 v L.length ((nos L).map encZ) ∧ Below w.heap.size w w' := by
  refine (callsIn_wide (n := 5)).1 ?_
  have hseq := keys_gives 2 (by omega) Bs m L w hBl hBs hL
  have cS := AnyZI.sorted_in Try.sortedL Fence.wide 5 trivial trivial trivial trivial rfl (by omega) (sorts _) (enters_of Try.func23 (by kernel_rfl) rfl) 24 #[.pointer (some ⟨Bs, 0, none⟩)] trivial (enters_of Try.func24 (by kernel_rfl) rfl) _ L.length (by unfold maxLen; omega) (by omega) w hseq
  refine CallsIn.mono (h := cS) ?_
  rintro e w' ⟨v, ss, rfl, hp, hrow, _, hb⟩
  rw [sort_nos hL.1 hp] at hrow
  have hlen := hp.length_eq
  simp only [nos, List.length_map] at hlen
  rw [hlen] at hrow
  exact ⟨v, rfl, hrow, hb⟩
end Go.Proofs.Ytmkfhcdmcncgkaa
