import Derived.Test.YtnbmgddkaclneaaNtA
import Derived.Laws.ResultCell
namespace Go.Proofs.Ytnbmgddkaclneaa
open Go.RowKit

/-- what At tells -/
def atD (l : List Dg) (p : Int) : Dg := if 0 ≤ p ∧ p < (l.length : Int) then l.getD p.toNat dg0 else dg0
def atE (l : List Dg) (p : Int) : Int := if 0 ≤ p ∧ p < (l.length : Int) then 0 else 30

set_option maxHeartbeats 1000000 in
theorem at_any {base : Nat} {w : World} {b : Nat} {v : Value} {l : List Dg} {s p : Int} (h : Bag 58 base w b v l s) :
    Calls Try.prog 19 #[.pointer (some ⟨b, 0, none⟩), .int .i64 p] w fun e w' => e = .returned (.tuple #[(atD l p).val, .int .i64 (atE l p)]) ∧ Below w.heap.size w w' := by
  obtain ⟨ad, cap, hv, hlc, hcm, had⟩ := h.form
  have c0 := h.c0
  rw [hv] at c0
  have hlt := h.lt
  by_cases hp : 0 ≤ p ∧ p < (l.length : Int)
  · obtain ⟨g, rfl⟩ := had (by omega)
    obtain ⟨n, rfl⟩ : ∃ n : Nat, p = (n : Int) := ⟨p.toNat, by omega⟩
    have hn : n < l.length := by omega
    have e1 : atD l (n : Int) = l[n] := by unfold atD; rw [if_pos hp, Int.toNat_natCast, List.getD_eq_getElem?_getD, List.getElem?_eq_getElem hn]; rfl
    have e2 : atE l (n : Int) = 0 := by unfold atE; rw [if_pos hp]
    rw [e1, e2]
    subst hv
    obtain ⟨k0, k1, k2, k3, k4, k5⟩ := h.six hn
    have hg : g < w.heap.size := (h.ftlt g (.inr rfl)).2
    generalize l[n] = d at *
    have b0 : decide ((n : Int) < 0) = false := by simp
    have b1 : decide ((l.length : Int) ≤ (n : Int)) = false := by simp; omega
    clear e1 e2 hp
    go_enter Try.func19, Try.ntmps19
    go_wp2
    refine bodyPost_ret (by rw [results_cell_tmp rfl]; go_simp; rfl) rfl ?_
    exact ⟨rfl, (Below.refl _ w).alloc (Nat.le_refl _) _⟩
  · have e1 : atD l p = dg0 := by unfold atD; rw [if_neg hp]
    have e2 : atE l p = 30 := by unfold atE; rw [if_neg hp]
    rw [e1, e2]
    clear e1 e2
    by_cases hp0 : p < 0
    · have b0 : decide (p < 0) = true := by simp; omega
      clear hp hp0 h hv had
      go_enter Try.func19, Try.ntmps19
      go_wp2
      refine bodyPost_ret (by rw [results_cell_tmp rfl]; go_simp; rfl) rfl ?_
      exact ⟨rfl, (Below.refl _ w).alloc (Nat.le_refl _) _⟩
    · have b0 : decide (p < 0) = false := by simp; omega
      have b1 : decide ((l.length : Int) ≤ p) = true := by simp; omega
      clear hp hp0 h hv had
      go_enter Try.func19, Try.ntmps19
      go_wp2
      refine bodyPost_ret (by rw [results_cell_tmp rfl]; go_simp; rfl) rfl ?_
      exact ⟨rfl, (Below.refl _ w).alloc (Nat.le_refl _) _⟩
end Go.Proofs.Ytnbmgddkaclneaa
