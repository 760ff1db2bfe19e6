import Derived.Test.YtdklpgkheakapaaGreatDoorWideB
namespace Go.Proofs.YtdklpgkheakapaaGreatDoor
open Go.RowKit

theorem plus_W (W V : Nat) (h : W + V < 18446744073709551616 * 18446744073709551616) (w : World) :
    Calls Tryz.prog 49 #[wW W, wW V] w fun e w' => e = .returned (wW (W + V)) ∧ Below w.heap.size w w' := by
  have a1 : W = W / 18446744073709551616 * 18446744073709551616 + W % 18446744073709551616 := by omega
  have a2 : V = V / 18446744073709551616 * 18446744073709551616 + V % 18446744073709551616 := by omega
  have b1 : W % 18446744073709551616 < 18446744073709551616 := Nat.mod_lt _ (by decide)
  have b2 : V % 18446744073709551616 < 18446744073709551616 := Nat.mod_lt _ (by decide)
  generalize hh1 : W / 18446744073709551616 = h1 at *
  generalize hh2 : V / 18446744073709551616 = h2 at *
  generalize hl1 : W % 18446744073709551616 = l1 at *
  generalize hl2 : V % 18446744073709551616 = l2 at *
  have eW : wW W = wv h1 l1 := by unfold wW; rw [hh1, hl1]
  have eV : wW V = wv h2 l2 := by unfold wW; rw [hh2, hl2]
  rw [eW, eV]
  by_cases hc : l1 + l2 < 18446744073709551616
  · have e : wW (W + V) = wv (h1 + h2) (l1 + l2) := by
      rw [show W + V = (h1 + h2) * 18446744073709551616 + (l1 + l2) from by omega]; exact wW_of _ _ hc
    rw [e]
    refine plus_v h1 l1 h2 l2 _ _ ?_ w (.inr ⟨by omega, ?_⟩)
    · rw [IntKind.wrap_u64]; omega
    · rw [IntKind.wrap_u64]; omega
  · have e : wW (W + V) = wv (h1 + h2 + 1) (l1 + l2 - 18446744073709551616) := by
      rw [show W + V = (h1 + h2 + 1) * 18446744073709551616 + (l1 + l2 - 18446744073709551616) from by omega]; exact wW_of _ _ (by omega)
    rw [e]
    refine plus_v h1 l1 h2 l2 _ _ ?_ w (.inl ⟨by omega, ?_⟩)
    · rw [IntKind.wrap_u64]; omega
    · rw [IntKind.wrap_u64, IntKind.wrap_u64]; omega

set_option maxHeartbeats 400000 in
theorem minus_v (h1 l1 h2 l2 x y : Nat) (hy : IntKind.u64.wrap ((l1 : Int) - (l2 : Int)) = (y : Int)) (w : World) (hc : (l1 : Int) < (l2 : Int) ∧ IntKind.u64.wrap (IntKind.u64.wrap ((h1 : Int) - (h2 : Int)) - 1) = (x : Int) ∨ ¬ (l1 : Int) < (l2 : Int) ∧ IntKind.u64.wrap ((h1 : Int) - (h2 : Int)) = (x : Int)) :
    Calls Tryz.prog 50 #[wv h1 l1, wv h2 l2] w fun e w' => e = .returned (wv x y) ∧ Below w.heap.size w w' := by
  rcases hc with ⟨c1, c2⟩ | ⟨c1, c2⟩
  all_goals
    go_enter Tryz.func50, Tryz.ntmps50
    go_wp2
    exact bodyPost_ret (v := wv x y) (by simp [results, Tryz.results50, go_sem]) rfl ⟨rfl, (((Below.refl _ _).alloc (Nat.le_refl _) _).alloc (by simp) _).alloc (by simp; omega) _⟩
theorem minus_W (W V : Nat) (h : V ≤ W) (hW : W < 18446744073709551616 * 18446744073709551616) (w : World) :
    Calls Tryz.prog 50 #[wW W, wW V] w fun e w' => e = .returned (wW (W - V)) ∧ Below w.heap.size w w' := by
  have a1 : W = W / 18446744073709551616 * 18446744073709551616 + W % 18446744073709551616 := by omega
  have a2 : V = V / 18446744073709551616 * 18446744073709551616 + V % 18446744073709551616 := by omega
  have b1 : W % 18446744073709551616 < 18446744073709551616 := Nat.mod_lt _ (by decide)
  have b2 : V % 18446744073709551616 < 18446744073709551616 := Nat.mod_lt _ (by decide)
  generalize hh1 : W / 18446744073709551616 = h1 at *
  generalize hh2 : V / 18446744073709551616 = h2 at *
  generalize hl1 : W % 18446744073709551616 = l1 at *
  generalize hl2 : V % 18446744073709551616 = l2 at *
  have eW : wW W = wv h1 l1 := by unfold wW; rw [hh1, hl1]
  have eV : wW V = wv h2 l2 := by unfold wW; rw [hh2, hl2]
  rw [eW, eV]
  by_cases hc : l1 < l2
  · have e : wW (W - V) = wv (h1 - h2 - 1) (l1 + 18446744073709551616 - l2) := by
      rw [show W - V = (h1 - h2 - 1) * 18446744073709551616 + (l1 + 18446744073709551616 - l2) from by omega]; exact wW_of _ _ (by omega)
    rw [e]
    refine minus_v h1 l1 h2 l2 _ _ ?_ w (.inl ⟨by omega, ?_⟩)
    · rw [IntKind.wrap_u64]; omega
    · rw [IntKind.wrap_u64, IntKind.wrap_u64]; omega
  · have e : wW (W - V) = wv (h1 - h2) (l1 - l2) := by
      rw [show W - V = (h1 - h2) * 18446744073709551616 + (l1 - l2) from by omega]; exact wW_of _ _ (by omega)
    rw [e]
    refine minus_v h1 l1 h2 l2 _ _ ?_ w (.inr ⟨by omega, ?_⟩)
    · rw [IntKind.wrap_u64]; omega
    · rw [IntKind.wrap_u64]; omega

set_option maxHeartbeats 400000 in
theorem less_v (h1 l1 h2 l2 : Nat) (b : Bool) (w : World) (hc : h1 < h2 ∧ b = true ∨ (h2 ≤ h1 ∧ ((h1 : Int) == (h2 : Int)) = false ∧ b = false) ∨ (h2 ≤ h1 ∧ ((h1 : Int) == (h2 : Int)) = true ∧ decide (l1 < l2) = b)) :
    Calls Tryz.prog 66 #[wv h1 l1, wv h2 l2] w fun e w' => e = .returned (.bool b) ∧ Below w.heap.size w w' := by
  rcases hc with ⟨c1, rfl⟩ | ⟨c1, c2, rfl⟩ | ⟨c1, c2, c3⟩
  all_goals
    go_enter Tryz.func66, Tryz.ntmps66
    go_wp2
    go_ret
    refine ⟨?_, ((Below.refl _ _).alloc (Nat.le_refl _) _).alloc (by simp) _⟩
    first | rfl | exact congrArg (fun b => Ending.returned (Value.bool b)) (by simp; omega) | (refine congrArg (fun b => Ending.returned (Value.bool b)) ?_; rw [← c3, Bool.eq_iff_iff]; simp; omega)
theorem less_W (W V : Nat) (w : World) :
    Calls Tryz.prog 66 #[wW W, wW V] w fun e w' => e = .returned (.bool (decide (W < V))) ∧ Below w.heap.size w w' := by
  have a1 : W = W / 18446744073709551616 * 18446744073709551616 + W % 18446744073709551616 := by omega
  have a2 : V = V / 18446744073709551616 * 18446744073709551616 + V % 18446744073709551616 := by omega
  have b1 : W % 18446744073709551616 < 18446744073709551616 := Nat.mod_lt _ (by decide)
  have b2 : V % 18446744073709551616 < 18446744073709551616 := Nat.mod_lt _ (by decide)
  generalize hh1 : W / 18446744073709551616 = h1 at *
  generalize hh2 : V / 18446744073709551616 = h2 at *
  generalize hl1 : W % 18446744073709551616 = l1 at *
  generalize hl2 : V % 18446744073709551616 = l2 at *
  have eW : wW W = wv h1 l1 := by unfold wW; rw [hh1, hl1]
  have eV : wW V = wv h2 l2 := by unfold wW; rw [hh2, hl2]
  rw [eW, eV]
  refine less_v h1 l1 h2 l2 _ w ?_
  rcases Nat.lt_trichotomy h1 h2 with k | k | k
  · exact .inl ⟨k, decide_eq_true (by omega)⟩
  · refine .inr (.inr ⟨by omega, beqN_t k, ?_⟩)
    rw [Bool.eq_iff_iff]; simp; omega
  · exact .inr (.inl ⟨by omega, beqN_f (by omega), decide_eq_false (by omega)⟩)
end Go.Proofs.YtdklpgkheakapaaGreatDoor
