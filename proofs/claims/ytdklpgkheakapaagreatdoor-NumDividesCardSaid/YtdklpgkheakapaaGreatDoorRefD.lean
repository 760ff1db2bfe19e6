import Derived.Test.YtdklpgkheakapaaGreatDoorRefC
namespace Go.Proofs.YtdklpgkheakapaaGreatDoor
open Go.RowKit

def tkM (a : Nat) : Nat := if fx a = 0 then fm a else fm a + 4503599627370496
def tkE (a : Nat) : Int := if fx a = 0 then -1074 else (fx a : Int) - 1075
theorem half_or (a : Nat) : bits .or .u64 (fm a : Int) 4503599627370496 = ((fm a + 4503599627370496 : Nat) : Int) := by
  have hl : fm a < 4503599627370496 := Nat.mod_lt _ (by decide)
  rw [show (4503599627370496 : Int) = ((4503599627370496 : Nat) : Int) from rfl, u64_or_nat _ _ (by omega) (by omega)]
  have := Nat.two_pow_add_eq_or_of_lt (i := 52) hl 1
  rw [Nat.mul_one] at this
  rw [Nat.or_comm, Nat.add_comm]
  exact congrArg Int.ofNat this.symm
set_option maxHeartbeats 400000 in
theorem taken_as (a m : Nat) (e : Int) (h : a < 18446744073709551616) (hm : tkM a = m) (he : tkE a = e) (w : World) :
    Calls Tryz.prog 46 #[.int .u64 (a : Int)] w fun e' w' => e' = .returned (.tuple #[.int .u64 (m : Int), .int .i64 e]) ∧ w' = w := by
  subst hm; subst he
  have hx := fields_x a h
  have hm := fields_m a h
  have hl : fx a < 2048 := Nat.mod_lt _ (by decide)
  have hw : IntKind.i64.wrap (fx a : Int) = (fx a : Int) := by rw [IntKind.wrap_i64]; omega
  unfold tkM tkE
  by_cases h0 : fx a = 0
  · rw [if_pos h0, if_pos h0]
    have hb : ((fx a : Int) == 0) = true := beqN_t (y := 0) h0
    clear h0 hl
    go_enter Tryz.func46, Tryz.ntmps46
    go_wp2
    go_ret2
    exact ⟨rfl, rfl⟩
  · rw [if_neg h0, if_neg h0]
    have hb : ((fx a : Int) == 0) = false := beqN_f (y := 0) h0
    have ho := half_or a
    have hw2 : IntKind.i64.wrap ((fx a : Int) - 1075) = (fx a : Int) - 1075 := by rw [IntKind.wrap_i64]; omega
    generalize fm a + 4503599627370496 = M at *
    clear h0
    go_enter Tryz.func46, Tryz.ntmps46
    go_wp2
    go_ret2
    exact ⟨rfl, rfl⟩

theorem rounded_t (M x : Nat) (hx : Gn.wd true (Gn.rn (M * Gn.UU)) = x) (h0 : M ≠ 0) (hM : M < 9007199254740992) (w : World) :
    Calls Tryz.prog 48 #[.int .u64 9223372036854775808, .agg #[.int .u64 0, .int .u64 (M : Int)], .int .i64 0, .bool false] w fun e' w' => e' = .returned (.int .u64 (x : Int)) ∧ Below w.heap.size w w' := by
  subst hx; exact rounded_M true M h0 hM w
theorem rounded_f (M x : Nat) (hx : Gn.wd false (Gn.rn (M * Gn.UU)) = x) (h0 : M ≠ 0) (hM : M < 9007199254740992) (w : World) :
    Calls Tryz.prog 48 #[.int .u64 0, .agg #[.int .u64 0, .int .u64 (M : Int)], .int .i64 0, .bool false] w fun e' w' => e' = .returned (.int .u64 (x : Int)) ∧ Below w.heap.size w w' := by
  subst hx; exact rounded_M false M h0 hM w

set_option maxHeartbeats 400000 in
theorem rfloor_nan (a : Nat) (h : a < 18446744073709551616) (hb : nanB a = true) (w : World) :
    Calls Tryz.prog 27 #[.int .u64 (a : Int)] w fun e w' => e = .returned (.int .u64 9221120237041090561) ∧ Below w.heap.size w w' := by
  go_enter Tryz.func27, Tryz.ntmps27
  go_wp2_with (go_at_call 53; refine (risNaN_any _ h _).mono ?_; rintro e w' ⟨rfl, rfl⟩)
  go_ret
  exact ⟨rfl, Below.refl _ _⟩
set_option maxHeartbeats 400000 in
theorem rfloor_self (a : Nat) (h : a < 18446744073709551616) (hb : nanB a = false) (hf : bits .andNot .u64 (a : Int) 9223372036854775808 = (lowW a : Int)) (hs : ((lowW a : Int) == 9218868437227405312 || (lowW a : Int) == 0) = true) (w : World) :
    Calls Tryz.prog 27 #[.int .u64 (a : Int)] w fun e w' => e = .returned (.int .u64 (a : Int)) ∧ Below w.heap.size w w' := by
  go_enter Tryz.func27, Tryz.ntmps27
  rcases Bool.or_eq_true_iff.1 hs with k | k
  · clear hs
    go_wp2_with (go_at_call 53; refine (risNaN_any _ h _).mono ?_; rintro e w' ⟨rfl, rfl⟩)
    go_ret
    exact ⟨rfl, Below.refl _ _⟩
  · have k2 : ((lowW a : Int) == 9218868437227405312) = false := by rw [beq_eq_false_iff_ne]; have := beq_iff_eq.1 k; omega
    clear hs
    go_wp2_with (go_at_call 53; refine (risNaN_any _ h _).mono ?_; rintro e w' ⟨rfl, rfl⟩)
    go_ret
    exact ⟨rfl, Below.refl _ _⟩
set_option maxHeartbeats 400000 in
theorem rfloor_whole (a m d : Nat) (h : a < 18446744073709551616) (hb : nanB a = false) (hf : bits .andNot .u64 (a : Int) 9223372036854775808 = (lowW a : Int)) (k1 : ((lowW a : Int) == 9218868437227405312) = false) (k2 : ((lowW a : Int) == 0) = false) (hm : tkM a = m) (he : tkE a = (d : Int)) (w : World) :
    Calls Tryz.prog 27 #[.int .u64 (a : Int)] w fun e w' => e = .returned (.int .u64 (a : Int)) ∧ Below w.heap.size w w' := by
  go_enter Tryz.func27, Tryz.ntmps27
  go_wp2_with (first | (go_at_call 53; refine (risNaN_any _ h _).mono ?_; rintro e w' ⟨rfl, rfl⟩) | (go_at_call 46; refine (taken_as a m _ h hm he _).mono ?_; rintro e w' ⟨rfl, rfl⟩))
  go_ret
  exact ⟨rfl, Below.refl _ _⟩
set_option maxHeartbeats 400000 in
theorem rfloor_tiny_f (a m d : Nat) (h : a < 18446744073709551616) (hb : nanB a = false) (hf : bits .andNot .u64 (a : Int) 9223372036854775808 = (lowW a : Int)) (k1 : ((lowW a : Int) == 9218868437227405312) = false) (k2 : ((lowW a : Int) == 0) = false) (hm : tkM a = m) (he : tkE a = -(d : Int)) (h1 : (64 : Int) ≤ (d : Int)) (hs : bits .and .u64 (a : Int) 9223372036854775808 = 0) (w : World) :
    Calls Tryz.prog 27 #[.int .u64 (a : Int)] w fun e w' => e = .returned (.int .u64 0) ∧ Below w.heap.size w w' := by
  have h2 : ¬ (0 : Int) ≤ -(d : Int) := by omega
  have h3 : ¬ (-64 : Int) < -(d : Int) := by omega
  go_enter Tryz.func27, Tryz.ntmps27
  go_wp2_with (first | (go_at_call 53; refine (risNaN_any _ h _).mono ?_; rintro e w' ⟨rfl, rfl⟩) | (go_at_call 46; refine (taken_as a m _ h hm he _).mono ?_; rintro e w' ⟨rfl, rfl⟩))
  go_ret
  exact ⟨rfl, Below.refl _ _⟩
/-- what rounded answers, as one fact -/
structure Rnd (s M : Int) (x : Nat) : Prop where
  run : ∀ w : World, Calls Tryz.prog 48 #[.int .u64 s, .agg #[.int .u64 0, .int .u64 M], .int .i64 0, .bool false] w fun e' w' => e' = .returned (.int .u64 (x : Int)) ∧ Below w.heap.size w w'
set_option maxHeartbeats 400000 in
theorem rfloor_tiny_t (a m d x : Nat) (h : a < 18446744073709551616) (hb : nanB a = false) (hf : bits .andNot .u64 (a : Int) 9223372036854775808 = (lowW a : Int)) (k1 : ((lowW a : Int) == 9218868437227405312) = false) (k2 : ((lowW a : Int) == 0) = false) (hm : tkM a = m) (he : tkE a = -(d : Int)) (hR : Rnd 9223372036854775808 1 x) (h1 : (64 : Int) ≤ (d : Int)) (hs : bits .and .u64 (a : Int) 9223372036854775808 = 9223372036854775808) (w : World) :
    Calls Tryz.prog 27 #[.int .u64 (a : Int)] w fun e w' => e = .returned (.int .u64 (x : Int)) ∧ Below w.heap.size w w' := by
  have h2 : ¬ (0 : Int) ≤ -(d : Int) := by omega
  have h3 : ¬ (-64 : Int) < -(d : Int) := by omega
  go_enter Tryz.func27, Tryz.ntmps27
  go_wp2_with (first | (go_at_call 53; refine (risNaN_any _ h _).mono ?_; rintro e w' ⟨rfl, rfl⟩) | (go_at_call 46; refine (taken_as a m _ h hm he _).mono ?_; rintro e w' ⟨rfl, rfl⟩))
  refine (hR.run _).mono ?_
  rintro e' w1 ⟨rfl, hb1⟩
  go_wp2_with fail
  go_ret
  exact ⟨rfl, hb1⟩
set_option maxHeartbeats 400000 in
theorem rfloor_tt (a m d n k F x : Nat) (h : a < 18446744073709551616) (hb : nanB a = false) (hf : bits .andNot .u64 (a : Int) 9223372036854775808 = (lowW a : Int)) (k1 : ((lowW a : Int) == 9218868437227405312) = false) (k2 : ((lowW a : Int) == 0) = false) (hm : tkM a = m) (he : tkE a = -(d : Int)) (hR : Rnd 9223372036854775808 (F : Int) x) (h1 : (1 : Int) ≤ (d : Int)) (h2 : (d : Int) < 64) (hsh : (m : Int) / 2 ^ d = (n : Int)) (hbk : IntKind.u64.wrap ((n : Int) * 2 ^ d) = (k : Int)) (hs : bits .and .u64 (a : Int) 9223372036854775808 = 9223372036854775808) (hr : ((k : Int) != (m : Int)) = true) (hF : IntKind.u64.wrap ((n : Int) + 1) = (F : Int)) (hF0 : ((F : Int) == 0) = false) (w : World) :
    Calls Tryz.prog 27 #[.int .u64 (a : Int)] w fun e w' => e = .returned (.int .u64 (x : Int)) ∧ Below w.heap.size w w' := by
  have h3 : ¬ (0 : Int) ≤ -(d : Int) := by omega
  have h4 : (-64 : Int) < -(d : Int) := by omega
  go_enter Tryz.func27, Tryz.ntmps27
  go_wp2_with (first | (go_at_call 53; refine (risNaN_any _ h _).mono ?_; rintro e w' ⟨rfl, rfl⟩) | (go_at_call 46; refine (taken_as a m _ h hm he _).mono ?_; rintro e w' ⟨rfl, rfl⟩))
  refine (hR.run _).mono ?_
  rintro e' w1 ⟨rfl, hb1⟩
  go_wp2_with fail
  go_ret
  exact ⟨rfl, hb1⟩
set_option maxHeartbeats 400000 in
theorem rfloor_tf (a m d n k x : Nat) (h : a < 18446744073709551616) (hb : nanB a = false) (hf : bits .andNot .u64 (a : Int) 9223372036854775808 = (lowW a : Int)) (k1 : ((lowW a : Int) == 9218868437227405312) = false) (k2 : ((lowW a : Int) == 0) = false) (hm : tkM a = m) (he : tkE a = -(d : Int)) (hR : Rnd 9223372036854775808 (n : Int) x) (h1 : (1 : Int) ≤ (d : Int)) (h2 : (d : Int) < 64) (hsh : (m : Int) / 2 ^ d = (n : Int)) (hbk : IntKind.u64.wrap ((n : Int) * 2 ^ d) = (k : Int)) (hs : bits .and .u64 (a : Int) 9223372036854775808 = 9223372036854775808) (hr : ((k : Int) != (m : Int)) = false) (hF0 : ((n : Int) == 0) = false) (w : World) :
    Calls Tryz.prog 27 #[.int .u64 (a : Int)] w fun e w' => e = .returned (.int .u64 (x : Int)) ∧ Below w.heap.size w w' := by
  have h3 : ¬ (0 : Int) ≤ -(d : Int) := by omega
  have h4 : (-64 : Int) < -(d : Int) := by omega
  go_enter Tryz.func27, Tryz.ntmps27
  go_wp2_with (first | (go_at_call 53; refine (risNaN_any _ h _).mono ?_; rintro e w' ⟨rfl, rfl⟩) | (go_at_call 46; refine (taken_as a m _ h hm he _).mono ?_; rintro e w' ⟨rfl, rfl⟩))
  refine (hR.run _).mono ?_
  rintro e' w1 ⟨rfl, hb1⟩
  go_wp2_with fail
  go_ret
  exact ⟨rfl, hb1⟩
set_option maxHeartbeats 400000 in
theorem rfloor_f0 (a m d n k : Nat) (h : a < 18446744073709551616) (hb : nanB a = false) (hf : bits .andNot .u64 (a : Int) 9223372036854775808 = (lowW a : Int)) (k1 : ((lowW a : Int) == 9218868437227405312) = false) (k2 : ((lowW a : Int) == 0) = false) (hm : tkM a = m) (he : tkE a = -(d : Int)) (h1 : (1 : Int) ≤ (d : Int)) (h2 : (d : Int) < 64) (hsh : (m : Int) / 2 ^ d = (n : Int)) (hbk : IntKind.u64.wrap ((n : Int) * 2 ^ d) = (k : Int)) (hs : bits .and .u64 (a : Int) 9223372036854775808 = 0) (hF0 : ((n : Int) == 0) = true) (w : World) :
    Calls Tryz.prog 27 #[.int .u64 (a : Int)] w fun e w' => e = .returned (.int .u64 0) ∧ Below w.heap.size w w' := by
  have h3 : ¬ (0 : Int) ≤ -(d : Int) := by omega
  have h4 : (-64 : Int) < -(d : Int) := by omega
  go_enter Tryz.func27, Tryz.ntmps27
  go_wp2_with (first | (go_at_call 53; refine (risNaN_any _ h _).mono ?_; rintro e w' ⟨rfl, rfl⟩) | (go_at_call 46; refine (taken_as a m _ h hm he _).mono ?_; rintro e w' ⟨rfl, rfl⟩))
  go_ret
  exact ⟨rfl, Below.refl _ _⟩
set_option maxHeartbeats 400000 in
theorem rfloor_fn (a m d n k x : Nat) (h : a < 18446744073709551616) (hb : nanB a = false) (hf : bits .andNot .u64 (a : Int) 9223372036854775808 = (lowW a : Int)) (k1 : ((lowW a : Int) == 9218868437227405312) = false) (k2 : ((lowW a : Int) == 0) = false) (hm : tkM a = m) (he : tkE a = -(d : Int)) (hR : Rnd 0 (n : Int) x) (h1 : (1 : Int) ≤ (d : Int)) (h2 : (d : Int) < 64) (hsh : (m : Int) / 2 ^ d = (n : Int)) (hbk : IntKind.u64.wrap ((n : Int) * 2 ^ d) = (k : Int)) (hs : bits .and .u64 (a : Int) 9223372036854775808 = 0) (hF0 : ((n : Int) == 0) = false) (w : World) :
    Calls Tryz.prog 27 #[.int .u64 (a : Int)] w fun e w' => e = .returned (.int .u64 (x : Int)) ∧ Below w.heap.size w w' := by
  have h3 : ¬ (0 : Int) ≤ -(d : Int) := by omega
  have h4 : (-64 : Int) < -(d : Int) := by omega
  go_enter Tryz.func27, Tryz.ntmps27
  go_wp2_with (first | (go_at_call 53; refine (risNaN_any _ h _).mono ?_; rintro e w' ⟨rfl, rfl⟩) | (go_at_call 46; refine (taken_as a m _ h hm he _).mono ?_; rintro e w' ⟨rfl, rfl⟩))
  refine (hR.run _).mono ?_
  rintro e' w1 ⟨rfl, hb1⟩
  go_wp2_with fail
  go_ret
  exact ⟨rfl, hb1⟩
end Go.Proofs.YtdklpgkheakapaaGreatDoor
