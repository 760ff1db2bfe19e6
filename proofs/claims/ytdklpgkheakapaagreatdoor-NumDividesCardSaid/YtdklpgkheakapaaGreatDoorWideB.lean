import Derived.Test.YtdklpgkheakapaaGreatDoorWideA
namespace Go.Proofs.YtdklpgkheakapaaGreatDoor
open Go.RowKit

theorem cast_mul_pow (a n : Nat) : (a : Int) * 2 ^ n = ((a * 2 ^ n : Nat) : Int) := by simp
theorem cast_div_pow (a n : Nat) : (a : Int) / 2 ^ n = ((a / 2 ^ n : Nat) : Int) := by simp

theorem mul_add_mod_lt {q b r : Nat} (h : r < b) : (q * b + r) % b = r := by
  rw [Nat.mul_comm, Nat.mul_add_mod, Nat.mod_eq_of_lt h]
/-- the halves of a product by P, P Q being 2^64 -/
theorem left_math (hi lo P Q B : Nat) (hB : P * Q = B) (hQ : 0 < Q) (hlo : lo < B) (h : (hi * B + lo) * P < B * B) :
    hi * P < B ∧ lo / Q < P ∧ (hi * B + lo) * P = (hi * P + lo / Q) * B + lo * P % B ∧ hi * P + lo / Q < B := by
  have hBp : 0 < B := by omega
  have e1 : (hi * B + lo) * P = hi * P * B + lo * P := by
    rw [Nat.add_mul, Nat.mul_right_comm]
  have h1 : hi * P < B := by
    rcases Nat.lt_or_ge (hi * P) B with k | k
    · exact k
    · have := Nat.mul_le_mul_right B k; omega
  have h2 : lo / Q < P := (Nat.div_lt_iff_lt_mul hQ).2 (by rw [hB]; exact hlo)
  have e2 := Nat.div_add_mod lo Q
  have e3 : lo * P = lo / Q * B + lo % Q * P := by
    conv => lhs; rw [← e2]
    rw [Nat.add_mul, Nat.mul_comm Q, Nat.mul_assoc, Nat.mul_comm Q P, hB]
  have h3 : lo % Q * P < B := by
    have := Nat.mul_lt_mul_of_pos_right (Nat.mod_lt lo hQ) (Nat.lt_of_le_of_lt (Nat.zero_le _) h2)
    rw [Nat.mul_comm Q P, hB] at this; exact this
  have e4 : lo * P % B = lo % Q * P := by
    rw [e3, mul_add_mod_lt h3]
  have e5 : (hi * B + lo) * P = (hi * P + lo / Q) * B + lo * P % B := by
    rw [e1, e4, Nat.add_mul]; omega
  refine ⟨h1, h2, e5, ?_⟩
  rcases Nat.lt_or_ge (hi * P + lo / Q) B with k | k
  · exact k
  · have := Nat.mul_le_mul_right B k; omega
theorem right_math (hi lo P Q B : Nat) (hB : P * Q = B) (hP : 0 < P) (hQ : 0 < Q) (hlo : lo < B) :
    hi * Q % B = hi % P * Q ∧ lo / P < Q ∧ (hi * B + lo) / P = hi / P * B + (hi % P * Q + lo / P) ∧ hi % P * Q + lo / P < B := by
  have h2 : lo / P < Q := (Nat.div_lt_iff_lt_mul hP).2 (by rw [Nat.mul_comm, hB]; exact hlo)
  have e2 := Nat.div_add_mod hi P
  have h3 : hi % P * Q + Q ≤ B := by
    have := Nat.mul_le_mul_right Q (Nat.succ_le_of_lt (Nat.mod_lt hi hP))
    rw [Nat.succ_mul, hB] at this; exact this
  have e3 : hi * Q = hi / P * B + hi % P * Q := by
    conv => lhs; rw [← e2]
    rw [Nat.add_mul, Nat.mul_comm P, Nat.mul_assoc, hB]
  have e4 : hi * Q % B = hi % P * Q := by
    rw [e3, mul_add_mod_lt (by omega)]
  have e5 : (hi * B + lo) / P = hi * Q + lo / P := by
    rw [← hB, show hi * (P * Q) + lo = lo + P * (hi * Q) from by rw [Nat.mul_left_comm]; omega, Nat.add_mul_div_left _ _ hP]; omega
  exact ⟨e4, h2, by rw [e5, e3]; omega, by omega⟩

set_option maxHeartbeats 400000 in
theorem plus_v (h1 l1 h2 l2 x y : Nat) (hy : IntKind.u64.wrap ((l1 : Int) + (l2 : Int)) = (y : Int)) (w : World) (hc : (y : Int) < (l1 : Int) ∧ IntKind.u64.wrap (IntKind.u64.wrap ((h1 : Int) + (h2 : Int)) + 1) = (x : Int) ∨ ¬ (y : Int) < (l1 : Int) ∧ IntKind.u64.wrap ((h1 : Int) + (h2 : Int)) = (x : Int)) :
    Calls Tryz.prog 49 #[wv h1 l1, wv h2 l2] w fun e w' => e = .returned (wv x y) ∧ Below w.heap.size w w' := by
  rcases hc with ⟨c1, c2⟩ | ⟨c1, c2⟩
  all_goals
    go_enter Tryz.func49, Tryz.ntmps49
    go_wp2
    exact bodyPost_ret (v := wv x y) (by simp [results, Tryz.results49, go_sem]) rfl ⟨rfl, (((Below.refl _ _).alloc (Nat.le_refl _) _).alloc (by simp) _).alloc (by simp; omega) _⟩
theorem B64 : (18446744073709551616 : Nat) = 2 ^ 64 := by decide
theorem left_W (W n : Nat) (hn : n ≤ 127) (hW : W * 2 ^ n < 18446744073709551616 * 18446744073709551616) (w : World) :
    Calls Tryz.prog 47 #[wW W, .int .i64 (n : Int)] w fun e w' => e = .returned (wW (W * 2 ^ n)) ∧ Below w.heap.size w w' := by
  have hlo : W % 18446744073709551616 < 18446744073709551616 := Nat.mod_lt _ (by decide)
  have hWd : W = W / 18446744073709551616 * 18446744073709551616 + W % 18446744073709551616 := by omega
  by_cases h1 : 64 ≤ n
  · have e0 : 2 ^ n = 2 ^ (n - 64) * 18446744073709551616 := by rw [B64, ← Nat.pow_add]; congr 1; omega
    have hp := Nat.two_pow_pos (n - 64)
    have hlt : W * 2 ^ (n - 64) < 18446744073709551616 := by
      rw [e0, ← Nat.mul_assoc] at hW
      exact Nat.lt_of_mul_lt_mul_right hW
    have hWs : W < 18446744073709551616 := by
      have := Nat.mul_le_mul_left W hp; omega
    have e1 : wW (W * 2 ^ n) = wv (W * 2 ^ (n - 64)) 0 := by
      have := wW_of (W * 2 ^ (n - 64)) 0 (by decide)
      rw [Nat.add_zero] at this
      rw [e0, ← Nat.mul_assoc]; exact this
    rw [e1]
    unfold wW
    rw [Nat.div_eq_of_lt hWs, Nat.mod_eq_of_lt hWs]
    exact left_big 0 W n _ (by omega) (by omega) (by rw [cast_mul_pow, wrap_nat _ hlt]) w
  · by_cases h2 : n = 0
    · subst h2
      rw [Nat.pow_zero, Nat.mul_one, show ((0 : Nat) : Int) = 0 from rfl]
      unfold wW
      exact left_zero (W / 18446744073709551616) (W % 18446744073709551616) w
    · have hPQ := pow64 n (by omega)
      have hW' := hW
      rw [hWd] at hW'
      obtain ⟨a1, a2, a3, a4⟩ := left_math _ _ _ _ _ hPQ (Nat.two_pow_pos _) hlo hW'
      rw [← hWd] at a3
      have e1 : wW (W * 2 ^ n) = wv (W / 18446744073709551616 * 2 ^ n + W % 18446744073709551616 / 2 ^ (64 - n)) (W % 18446744073709551616 * 2 ^ n % 18446744073709551616) := by
        rw [a3]; exact wW_of _ _ (Nat.mod_lt _ (by decide))
      rw [e1]
      refine left_mid _ _ n _ _ (by omega) (beqN_f (y := 0) h2) ?_ ?_ w
      · rw [cast_mul_pow, cast_div_pow, wrap_nat _ a1, u64_or_nat _ _ a1 (by omega), nat_join n _ _ (Nat.mul_mod_left _ _) a2]
      · rw [cast_mul_pow, wrap_mod]
theorem right_W (W n : Nat) (hn : n ≤ 127) (h0 : 1 ≤ n) (hW : W < 18446744073709551616 * 18446744073709551616) (w : World) :
    Calls Tryz.prog 65 #[wW W, .int .i64 (n : Int)] w fun e w' => e = .returned (wW (W / 2 ^ n)) ∧ Below w.heap.size w w' := by
  have hlo : W % 18446744073709551616 < 18446744073709551616 := Nat.mod_lt _ (by decide)
  have hhi : W / 18446744073709551616 < 18446744073709551616 := (Nat.div_lt_iff_lt_mul (by decide)).2 hW
  have hWd : W = W / 18446744073709551616 * 18446744073709551616 + W % 18446744073709551616 := by omega
  by_cases h1 : 64 ≤ n
  · have e0 : 2 ^ n = 18446744073709551616 * 2 ^ (n - 64) := by rw [B64, ← Nat.pow_add]; congr 1; omega
    have hlt : W / 18446744073709551616 / 2 ^ (n - 64) < 18446744073709551616 := Nat.lt_of_le_of_lt (Nat.div_le_self _ _) hhi
    have e1 : wW (W / 2 ^ n) = wv 0 (W / 18446744073709551616 / 2 ^ (n - 64)) := by
      rw [e0, ← Nat.div_div_eq_div_mul]
      have := wW_of 0 _ hlt
      rw [Nat.zero_mul, Nat.zero_add] at this; exact this
    rw [e1]
    exact right_big _ _ n _ (by omega) (by omega) (cast_div_pow _ _) w
  · have hPQ := pow64 n (by omega)
    obtain ⟨a1, a2, a3, a4⟩ := right_math (W / 18446744073709551616) (W % 18446744073709551616) _ _ _ hPQ (Nat.two_pow_pos _) (Nat.two_pow_pos _) hlo
    rw [← hWd] at a3
    have e1 : wW (W / 2 ^ n) = wv (W / 18446744073709551616 / 2 ^ n) (W / 18446744073709551616 % 2 ^ n * 2 ^ (64 - n) + W % 18446744073709551616 / 2 ^ n) := by
      rw [a3]; exact wW_of _ _ a4
    rw [e1]
    refine right_mid _ _ n _ _ (by omega) (beqN_f (y := 0) (by omega)) (cast_div_pow _ _) ?_ w
    rw [cast_mul_pow, cast_div_pow, wrap_mod, a1, u64_or_nat _ _ (by omega) (by omega), Nat.or_comm, nat_join (64 - n) _ _ (Nat.mul_mod_left _ _) a2]
end Go.Proofs.YtdklpgkheakapaaGreatDoor
