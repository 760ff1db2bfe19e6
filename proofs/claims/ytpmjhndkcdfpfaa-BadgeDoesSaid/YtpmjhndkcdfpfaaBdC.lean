import Derived.Test.YtpmjhndkcdfpfaaBdB
namespace Go.Proofs.Ytpmjhndkcdfpfaa
open Go.RowKit

/-- a number, counted round -/
def pl (n : Int) (m : Nat) : Nat := (if n.tmod (m : Int) < 0 then n.tmod (m : Int) + m else n.tmod (m : Int)).toNat
theorem pl_lt {n : Int} {m : Nat} (h0 : 0 < m) : pl n m < m := by
  have ht1 : n.tmod (m : Int) < (m : Int) := Int.tmod_lt_of_pos _ (by omega)
  unfold pl
  split <;> omega
set_option maxHeartbeats 400000 in
theorem place_any {w : World} {n : Int} {m : Nat} (h0 : 0 < m) (h1 : m ≤ 1000) (_ : -9223372036854775808 ≤ n ∧ n ≤ 9223372036854775807) :
    Calls Try.prog 10 #[.int .i64 n, .int .i64 (m : Int)] w fun e w' => e = .returned (.int .i64 (pl n m : Int)) ∧ w' = w := by
  have ht1 : n.tmod (m : Int) < (m : Int) := Int.tmod_lt_of_pos _ (by omega)
  have ht2 : -(m : Int) < n.tmod (m : Int) := Int.lt_tmod_of_pos _ (by omega)
  have hz : (m : Int) ≠ 0 := by omega
  have hz1 : (m : Int) ≠ -1 := by omega
  unfold pl
  generalize ht : n.tmod (m : Int) = t at *
  obtain ⟨r, hr⟩ : ∃ r : Int, (((if t < 0 then t + m else t).toNat : Nat) : Int) = r := ⟨_, rfl⟩
  rw [hr]
  by_cases h : t < 0
  · have b0 : decide (t < 0) = true := by simpa using h
    have HR : Hid (r = t + m) := by rw [if_pos h] at hr; show r = t + m; omega
    clear hr
    go_enter Try.func10, Try.ntmps10
    go_wp2
    go_ret
    rw [HR.out]
    exact ⟨rfl, rfl⟩
  · have b0 : decide (t < 0) = false := by simpa using h
    have HR : Hid (r = t) := by rw [if_neg h] at hr; show r = t; omega
    clear hr
    go_enter Try.func10, Try.ntmps10
    go_wp2
    go_ret
    rw [HR.out]
    exact ⟨rfl, rfl⟩
/-- a new counter stands in its world -/
theorem Cm.new (T : Nat) (w : World) (x y : Int) : Cm T (w.alloc (.cells #[.int .i64 x, .int .i64 y, .int .i64 y] T (0, 0))) w.heap.size (bnew x y) := heap_alloc_new w _
set_option maxHeartbeats 1000000 in
set_option maxRecDepth 8000 in
theorem fixed_any (w : World) : Calls Try.prog 9 #[] w fun e w' => e = .returned (.bool true) ∧ Below w.heap.size w w' := by
  go_enter Try.func9, Try.ntmps9
  go_wp2_with fail
  refine (bnew_any w (by decide) (by decide)).mono ?_
  rintro e w1 (⟨h, _⟩ | ⟨h, rfl, hw1⟩)
  · exact absurd (by decide) h
  have hB1 : Below w.heap.size w w1 := by rw [hw1]; exact (Below.refl _ w).alloc (Nat.le_refl _) _
  have hC1 : Cm 47 w1 w.heap.size (bnew 2 5) := by rw [hw1]; exact Cm.new _ _ _ _
  have HB1 := hide hB1
  have HC1 := hide hC1
  have hok := bnew_ok h
  clear hw1 h hB1 hC1
  go_wp2_with fail
  refine (last_any HC1.out).mono ?_
  rintro e w2 ⟨rfl, rfl⟩
  rw [show (bnew 2 5).last = 5 from rfl]
  go_wp2_with fail
  refine (reserved_any HC1.out).mono ?_
  rintro e w2 ⟨rfl, rfl⟩
  rw [show (bnew 2 5).res = 5 from rfl]
  go_wp2_with fail
  refine (next_any hok HC1.out).mono ?_
  rintro e w2 ⟨rfl, hC2, hO2⟩
  rw [show (bnew 2 5).next = ⟨6, 7, 0, ⟨2, 6, 7⟩⟩ from rfl] at hC2 ⊢
  have HB2 := hide (HB1.out.trans (hO2.below (Nat.le_refl _) HB1.out.size))
  have HC2 := hide hC2
  have hok2 : (⟨2, 6, 7⟩ : Bc).ok := ⟨by decide, by decide, by decide, by decide, by decide⟩
  clear hC2 hO2 HC1 hok
  simp only
  go_wp2_with fail
  refine (next_any hok2 HC2.out).mono ?_
  rintro e w3 ⟨rfl, hC3, hO3⟩
  rw [show (⟨2, 6, 7⟩ : Bc).next = ⟨7, 0, 0, ⟨2, 7, 7⟩⟩ from rfl]
  have HB3 := hide (HB2.out.trans (hO3.below (Nat.le_refl _) HB2.out.size))
  clear hC3 hO3
  simp only
  go_wp2_with fail
  go_ret
  exact ⟨rfl, HB3.out⟩
end Go.Proofs.Ytpmjhndkcdfpfaa
