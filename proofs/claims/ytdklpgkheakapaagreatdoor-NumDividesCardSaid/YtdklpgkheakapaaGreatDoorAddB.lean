import Derived.Test.YtdklpgkheakapaaGreatDoorAddA
import Derived.Test.YtdklpgkheakapaaGreatDoorTimC
import Derived.Test.YtdklpgkheakapaaGreatDoorRefC
namespace Go.Proofs.YtdklpgkheakapaaGreatDoor
open Go.RowKit Gn

structure AddF (a b x y : Nat) : Prop where
  hx : bits .andNot .u64 (a : Int) 9223372036854775808 = (x : Int)
  hy : bits .andNot .u64 (b : Int) 9223372036854775808 = (y : Int)
theorem addF (s t : Bool) (r q : Nat) (hr : r < 9223372036854775808) (hq : q < 9223372036854775808) : AddF (wd s r) (wd t q) r q :=
  ⟨by rw [abs_andNot _ (wd_lt s r hr), wd_mod s r hr], by rw [abs_andNot _ (wd_lt t q hq), wd_mod t q hq]⟩

set_option maxHeartbeats 1000000 in
theorem radd_n1 (a b x y : Nat) (F : AddF a b x y) (h : 9218868437227405312 < x) (w : World) :
    Calls Tryz.prog 11 #[.int .u64 (a : Int), .int .u64 (b : Int)] w fun e w' => e = .returned (.int .u64 9221120237041090561) ∧ Below w.heap.size w w' := by
  obtain ⟨hx, hy⟩ := F
  have b1 : decide ((9218868437227405312 : Int) < (x : Int)) = true := by simp; omega
  clear h
  go_enter Tryz.func11, Tryz.ntmps11
  go_wp2
  go_ret
  exact ⟨rfl, Below.refl _ _⟩
set_option maxHeartbeats 1000000 in
theorem radd_n2 (a b x y : Nat) (F : AddF a b x y) (h : ¬ 9218868437227405312 < x ∧ 9218868437227405312 < y) (w : World) :
    Calls Tryz.prog 11 #[.int .u64 (a : Int), .int .u64 (b : Int)] w fun e w' => e = .returned (.int .u64 9221120237041090561) ∧ Below w.heap.size w w' := by
  obtain ⟨hx, hy⟩ := F
  have b1 : decide ((9218868437227405312 : Int) < (x : Int)) = false := by simp; omega
  have b2 : decide ((9218868437227405312 : Int) < (y : Int)) = true := by simp; omega
  clear h
  go_enter Tryz.func11, Tryz.ntmps11
  go_wp2
  go_ret
  exact ⟨rfl, Below.refl _ _⟩
set_option maxHeartbeats 1000000 in
theorem radd_n3 (a b x y : Nat) (F : AddF a b x y) (h : x = 9218868437227405312 ∧ y = 9218868437227405312 ∧ a ≠ b) (w : World) :
    Calls Tryz.prog 11 #[.int .u64 (a : Int), .int .u64 (b : Int)] w fun e w' => e = .returned (.int .u64 9221120237041090561) ∧ Below w.heap.size w w' := by
  obtain ⟨hx, hy⟩ := F
  have b1 : decide ((9218868437227405312 : Int) < (x : Int)) = false := by simp; omega
  have b2 : decide ((9218868437227405312 : Int) < (y : Int)) = false := by simp; omega
  have b3 : ((x : Int) == 9218868437227405312) = true := eqB_t (y := 9218868437227405312) (by omega)
  have b5 : ((y : Int) == 9218868437227405312) = true := eqB_t (y := 9218868437227405312) (by omega)
  have b7 : ((a : Int) != (b : Int)) = true := bneN_t (by omega)
  clear h
  go_enter Tryz.func11, Tryz.ntmps11
  go_wp2
  go_ret
  exact ⟨rfl, Below.refl _ _⟩
set_option maxHeartbeats 1000000 in
theorem radd_i1 (a b x y : Nat) (F : AddF a b x y) (h : x = 9218868437227405312 ∧ y = 9218868437227405312 ∧ a = b) (w : World) :
    Calls Tryz.prog 11 #[.int .u64 (a : Int), .int .u64 (b : Int)] w fun e w' => e = .returned (.int .u64 (a : Int)) ∧ Below w.heap.size w w' := by
  obtain ⟨hx, hy⟩ := F
  have b1 : decide ((9218868437227405312 : Int) < (x : Int)) = false := by simp; omega
  have b2 : decide ((9218868437227405312 : Int) < (y : Int)) = false := by simp; omega
  have b3 : ((x : Int) == 9218868437227405312) = true := eqB_t (y := 9218868437227405312) (by omega)
  have b5 : ((y : Int) == 9218868437227405312) = true := eqB_t (y := 9218868437227405312) (by omega)
  have b7 : ((a : Int) != (b : Int)) = false := bneN_f (by omega)
  clear h
  go_enter Tryz.func11, Tryz.ntmps11
  go_wp2
  go_ret
  exact ⟨rfl, Below.refl _ _⟩
set_option maxHeartbeats 1000000 in
theorem radd_i2 (a b x y : Nat) (F : AddF a b x y) (h : x = 9218868437227405312 ∧ y < 9218868437227405312) (w : World) :
    Calls Tryz.prog 11 #[.int .u64 (a : Int), .int .u64 (b : Int)] w fun e w' => e = .returned (.int .u64 (a : Int)) ∧ Below w.heap.size w w' := by
  obtain ⟨hx, hy⟩ := F
  have b1 : decide ((9218868437227405312 : Int) < (x : Int)) = false := by simp; omega
  have b2 : decide ((9218868437227405312 : Int) < (y : Int)) = false := by simp; omega
  have b3 : ((x : Int) == 9218868437227405312) = true := eqB_t (y := 9218868437227405312) (by omega)
  have b5 : ((y : Int) == 9218868437227405312) = false := beqN_f (y := 9218868437227405312) (by omega)
  clear h
  go_enter Tryz.func11, Tryz.ntmps11
  go_wp2
  go_ret
  exact ⟨rfl, Below.refl _ _⟩
set_option maxHeartbeats 1000000 in
theorem radd_i3 (a b x y : Nat) (F : AddF a b x y) (h : x < 9218868437227405312 ∧ y = 9218868437227405312) (w : World) :
    Calls Tryz.prog 11 #[.int .u64 (a : Int), .int .u64 (b : Int)] w fun e w' => e = .returned (.int .u64 (b : Int)) ∧ Below w.heap.size w w' := by
  obtain ⟨hx, hy⟩ := F
  have b1 : decide ((9218868437227405312 : Int) < (x : Int)) = false := by simp; omega
  have b2 : decide ((9218868437227405312 : Int) < (y : Int)) = false := by simp; omega
  have b3 : ((x : Int) == 9218868437227405312) = false := beqN_f (y := 9218868437227405312) (by omega)
  have b5 : ((y : Int) == 9218868437227405312) = true := eqB_t (y := 9218868437227405312) (by omega)
  clear h
  go_enter Tryz.func11, Tryz.ntmps11
  go_wp2
  go_ret
  exact ⟨rfl, Below.refl _ _⟩
set_option maxHeartbeats 1000000 in
theorem radd_z1 (a b x y : Nat) (F : AddF a b x y) (z : Nat) (hz : bits .and .u64 (a : Int) (b : Int) = (z : Int)) (h : x = 0 ∧ y = 0) (w : World) :
    Calls Tryz.prog 11 #[.int .u64 (a : Int), .int .u64 (b : Int)] w fun e w' => e = .returned (.int .u64 (z : Int)) ∧ Below w.heap.size w w' := by
  obtain ⟨hx, hy⟩ := F
  have b1 : decide ((9218868437227405312 : Int) < (x : Int)) = false := by simp; omega
  have b2 : decide ((9218868437227405312 : Int) < (y : Int)) = false := by simp; omega
  have b3 : ((x : Int) == 9218868437227405312) = false := beqN_f (y := 9218868437227405312) (by omega)
  have b5 : ((y : Int) == 9218868437227405312) = false := beqN_f (y := 9218868437227405312) (by omega)
  have b4 : ((x : Int) == 0) = true := eqB_t (y := 0) (by omega)
  have b6 : ((y : Int) == 0) = true := eqB_t (y := 0) (by omega)
  clear h
  go_enter Tryz.func11, Tryz.ntmps11
  go_wp2
  go_ret
  exact ⟨rfl, Below.refl _ _⟩
set_option maxHeartbeats 1000000 in
theorem radd_z2 (a b x y : Nat) (F : AddF a b x y) (h : x = 0 ∧ y < 9218868437227405312 ∧ y ≠ 0) (w : World) :
    Calls Tryz.prog 11 #[.int .u64 (a : Int), .int .u64 (b : Int)] w fun e w' => e = .returned (.int .u64 (b : Int)) ∧ Below w.heap.size w w' := by
  obtain ⟨hx, hy⟩ := F
  have b1 : decide ((9218868437227405312 : Int) < (x : Int)) = false := by simp; omega
  have b2 : decide ((9218868437227405312 : Int) < (y : Int)) = false := by simp; omega
  have b3 : ((x : Int) == 9218868437227405312) = false := beqN_f (y := 9218868437227405312) (by omega)
  have b5 : ((y : Int) == 9218868437227405312) = false := beqN_f (y := 9218868437227405312) (by omega)
  have b4 : ((x : Int) == 0) = true := eqB_t (y := 0) (by omega)
  have b6 : ((y : Int) == 0) = false := beqN_f (y := 0) (by omega)
  clear h
  go_enter Tryz.func11, Tryz.ntmps11
  go_wp2
  go_ret
  exact ⟨rfl, Below.refl _ _⟩
set_option maxHeartbeats 1000000 in
theorem radd_z3 (a b x y : Nat) (F : AddF a b x y) (h : x < 9218868437227405312 ∧ x ≠ 0 ∧ y = 0) (w : World) :
    Calls Tryz.prog 11 #[.int .u64 (a : Int), .int .u64 (b : Int)] w fun e w' => e = .returned (.int .u64 (a : Int)) ∧ Below w.heap.size w w' := by
  obtain ⟨hx, hy⟩ := F
  have b1 : decide ((9218868437227405312 : Int) < (x : Int)) = false := by simp; omega
  have b2 : decide ((9218868437227405312 : Int) < (y : Int)) = false := by simp; omega
  have b3 : ((x : Int) == 9218868437227405312) = false := beqN_f (y := 9218868437227405312) (by omega)
  have b5 : ((y : Int) == 9218868437227405312) = false := beqN_f (y := 9218868437227405312) (by omega)
  have b4 : ((x : Int) == 0) = false := beqN_f (y := 0) (by omega)
  have b6 : ((y : Int) == 0) = true := eqB_t (y := 0) (by omega)
  clear h
  go_enter Tryz.func11, Tryz.ntmps11
  go_wp2
  go_ret
  exact ⟨rfl, Below.refl _ _⟩
set_option maxHeartbeats 1000000 in
theorem radd_lt (a b x y W : Nat) (F : AddF a b x y) (h : x < 9218868437227405312 ∧ y < 9218868437227405312 ∧ x ≠ 0 ∧ y ≠ 0) (hxy : x < y)
    (HR : Hid (∀ w1 : World, Calls Tryz.prog 11 #[.int .u64 (b : Int), .int .u64 (a : Int)] w1 fun e w' => e = .returned (.int .u64 (W : Int)) ∧ Below w1.heap.size w1 w')) (w : World) :
    Calls Tryz.prog 11 #[.int .u64 (a : Int), .int .u64 (b : Int)] w fun e w' => e = .returned (.int .u64 (W : Int)) ∧ Below w.heap.size w w' := by
  obtain ⟨hx, hy⟩ := F
  have b1 : decide ((9218868437227405312 : Int) < (x : Int)) = false := by simp; omega
  have b2 : decide ((9218868437227405312 : Int) < (y : Int)) = false := by simp; omega
  have b3 : ((x : Int) == 9218868437227405312) = false := beqN_f (y := 9218868437227405312) (by omega)
  have b5 : ((y : Int) == 9218868437227405312) = false := beqN_f (y := 9218868437227405312) (by omega)
  have b4 : ((x : Int) == 0) = false := beqN_f (y := 0) (by omega)
  have b6 : ((y : Int) == 0) = false := beqN_f (y := 0) (by omega)
  have b8 : decide ((x : Int) < (y : Int)) = true := by simp; omega
  clear h
  go_enter Tryz.func11, Tryz.ntmps11
  go_wp2_with fail
  refine (HR.out w).mono ?_
  rintro e w1 ⟨rfl, hb1⟩
  go_wp2_with fail
  go_ret
  exact ⟨rfl, hb1⟩
theorem left_small (a i : Nat) (ha : a < 9007199254740992) (hi : i ≤ 64) (w : World) :
    Calls Tryz.prog 47 #[.agg #[.int .u64 0, .int .u64 (a : Int)], .int .i64 (i : Int)] w fun e w' => e = .returned (wn (a * 2 ^ i)) ∧ Below w.heap.size w w' := by
  have h1 : a * 2 ^ i < 18446744073709551616 * 18446744073709551616 := by
    have h2 : (2 : Nat) ^ i ≤ 2 ^ 64 := Nat.pow_le_pow_right (by decide) hi
    have e : (2 : Nat) ^ 64 = 18446744073709551616 := by decide
    have : a * 2 ^ i ≤ 9007199254740992 * 18446744073709551616 := Nat.mul_le_mul (by omega) (by omega)
    omega
  have := left_n a i (by omega) h1 w
  have e : wn a = .agg #[.int .u64 0, .int .u64 (a : Int)] := by
    show Value.agg #[.int .u64 (hiN a : Int), .int .u64 (loN a : Int)] = _
    rw [show hiN a = 0 by unfold hiN; omega, show loN a = a by unfold loN; omega]; rfl
  rw [e] at this
  exact this
theorem wn_lit (n : Nat) (h : n < 18446744073709551616) : wn n = .agg #[.int .u64 0, .int .u64 (n : Int)] := by
  show Value.agg #[.int .u64 (hiN n : Int), .int .u64 (loN n : Int)] = _
  rw [show hiN n = 0 by unfold hiN; omega, show loN n = n by unfold loN; omega]; rfl

structure AddM (a b m n sa sb d : Nat) (f : Int) : Prop where
  ta : ∀ w1 : World, Calls Tryz.prog 46 #[.int .u64 (a : Int)] w1 fun e' w' => e' = .returned (.tuple #[.int .u64 (m : Int), .int .i64 (f + (d : Int))]) ∧ w' = w1
  tb : ∀ w1 : World, Calls Tryz.prog 46 #[.int .u64 (b : Int)] w1 fun e' w' => e' = .returned (.tuple #[.int .u64 (n : Int), .int .i64 f]) ∧ w' = w1
  ml : m < 9007199254740992
  nl : n < 9007199254740992

set_option maxHeartbeats 1000000 in
theorem radd_far (a b x y m n sa sb d : Nat) (f : Int) (F : AddF a b x y) (M : AddM a b m n sa sb d f) (h : x < 9218868437227405312 ∧ y < 9218868437227405312 ∧ x ≠ 0 ∧ y ≠ 0) (hxy : y ≤ x) (_hf1 : -1074 ≤ f) (_hf2 : f ≤ 971) (_hd2 : f + (d : Int) ≤ 971) (hd : 64 < d) (w : World) :
    Calls Tryz.prog 11 #[.int .u64 (a : Int), .int .u64 (b : Int)] w fun e w' => e = .returned (.int .u64 (a : Int)) ∧ Below w.heap.size w w' := by
  obtain ⟨hx, hy⟩ := F
  have HA : Hid (∀ w1 : World, Calls Tryz.prog 46 #[.int .u64 (a : Int)] w1 fun e' w' => e' = .returned (.tuple #[.int .u64 (m : Int), .int .i64 (f + (d : Int))]) ∧ w' = w1) := M.ta
  have HB : Hid (∀ w1 : World, Calls Tryz.prog 46 #[.int .u64 (b : Int)] w1 fun e' w' => e' = .returned (.tuple #[.int .u64 (n : Int), .int .i64 f]) ∧ w' = w1) := M.tb
  have hml := M.ml
  have hnl := M.nl
  have b1 : decide ((9218868437227405312 : Int) < (x : Int)) = false := by simp; omega
  have b2 : decide ((9218868437227405312 : Int) < (y : Int)) = false := by simp; omega
  have b3 : ((x : Int) == 9218868437227405312) = false := beqN_f (y := 9218868437227405312) (by omega)
  have b5 : ((y : Int) == 9218868437227405312) = false := beqN_f (y := 9218868437227405312) (by omega)
  have b4 : ((x : Int) == 0) = false := beqN_f (y := 0) (by omega)
  have b6 : ((y : Int) == 0) = false := beqN_f (y := 0) (by omega)
  have b8 : ¬ x < y := by omega
  clear h M hxy
  have b9 : 64 < d := by omega
  go_enter Tryz.func11, Tryz.ntmps11
  go_wp2_with fail
  refine (HA.out w).mono ?_
  rintro e1 wx ⟨rfl, hwx⟩
  rw [hwx]
  clear hwx wx
  go_wp2_with fail
  refine (HB.out _).mono ?_
  rintro e1 wx ⟨rfl, hwx⟩
  rw [hwx]
  clear hwx wx
  go_wp2_with fail
  go_ret
  exact ⟨rfl, Below.refl _ _⟩
set_option maxHeartbeats 1000000 in
theorem radd_same (a b x y m n sa sb d W : Nat) (f : Int) (F : AddF a b x y) (M : AddM a b m n sa sb d f) (h : x < 9218868437227405312 ∧ y < 9218868437227405312 ∧ x ≠ 0 ∧ y ≠ 0) (hxy : y ≤ x) (_hf1 : -1074 ≤ f) (_hf2 : f ≤ 971) (_hd2 : f + (d : Int) ≤ 971) (hd : d ≤ 64) (hsa : bits .and .u64 (a : Int) 9223372036854775808 = (sa : Int)) (hsb : bits .and .u64 (b : Int) 9223372036854775808 = (sb : Int)) (hss : sa = sb)
    (HR : Hid (∀ w1 : World, Calls Tryz.prog 48 #[.int .u64 (sa : Int), wn (m * 2 ^ d + n), .int .i64 f, .bool false] w1 fun e' w' => e' = .returned (.int .u64 (W : Int)) ∧ Below w1.heap.size w1 w')) (w : World) :
    Calls Tryz.prog 11 #[.int .u64 (a : Int), .int .u64 (b : Int)] w fun e w' => e = .returned (.int .u64 (W : Int)) ∧ Below w.heap.size w w' := by
  obtain ⟨hx, hy⟩ := F
  have HA : Hid (∀ w1 : World, Calls Tryz.prog 46 #[.int .u64 (a : Int)] w1 fun e' w' => e' = .returned (.tuple #[.int .u64 (m : Int), .int .i64 (f + (d : Int))]) ∧ w' = w1) := M.ta
  have HB : Hid (∀ w1 : World, Calls Tryz.prog 46 #[.int .u64 (b : Int)] w1 fun e' w' => e' = .returned (.tuple #[.int .u64 (n : Int), .int .i64 f]) ∧ w' = w1) := M.tb
  have hml := M.ml
  have hnl := M.nl
  have b1 : decide ((9218868437227405312 : Int) < (x : Int)) = false := by simp; omega
  have b2 : decide ((9218868437227405312 : Int) < (y : Int)) = false := by simp; omega
  have b3 : ((x : Int) == 9218868437227405312) = false := beqN_f (y := 9218868437227405312) (by omega)
  have b5 : ((y : Int) == 9218868437227405312) = false := beqN_f (y := 9218868437227405312) (by omega)
  have b4 : ((x : Int) == 0) = false := beqN_f (y := 0) (by omega)
  have b6 : ((y : Int) == 0) = false := beqN_f (y := 0) (by omega)
  have b8 : ¬ x < y := by omega
  clear h M hxy
  have b9 : ¬ 64 < d := by omega
  have b10 : ((sa : Int) == (sb : Int)) = true := eqB_t hss
  have hsum : m * 2 ^ d + n < 18446744073709551616 * 18446744073709551616 := by
    have h2 : (2 : Nat) ^ d ≤ 2 ^ 64 := Nat.pow_le_pow_right (by decide) hd
    have e : (2 : Nat) ^ 64 = 18446744073709551616 := by decide
    have : m * 2 ^ d ≤ 9007199254740992 * 18446744073709551616 := Nat.mul_le_mul (by omega) (by omega)
    omega
  have HP : Hid (∀ w1 : World, Calls Tryz.prog 49 #[wn (m * 2 ^ d), .agg #[.int .u64 0, .int .u64 (n : Int)]] w1 fun e w' => e = .returned (wn (m * 2 ^ d + n)) ∧ Below w1.heap.size w1 w') := fun w1 => by
    have := plus_n (m * 2 ^ d) n hsum w1
    rw [wn_lit n (by omega)] at this
    exact this
  clear hsum hss
  obtain ⟨V, HV⟩ : ∃ V, Hid (m * 2 ^ d + n = V) := ⟨_, rfl⟩
  rw [HV.out] at HP HR
  go_enter Tryz.func11, Tryz.ntmps11
  go_wp2_with fail
  refine (HA.out w).mono ?_
  rintro e1 wx ⟨rfl, hwx⟩
  rw [hwx]
  clear hwx wx
  go_wp2_with fail
  refine (HB.out _).mono ?_
  rintro e1 wx ⟨rfl, hwx⟩
  rw [hwx]
  clear hwx wx
  go_wp2_with fail
  rw [show f + (d : Int) - f = (d : Int) by omega]
  refine (left_small m d hml (by omega) _).mono ?_
  rintro e1 w1 ⟨rfl, hb1⟩
  obtain ⟨z0, z1, z2, z3, z4⟩ := keep2 (B := w.heap.size) (x := .int .u64 0) (y := .int .u64 (m : Int)) hb1 (by simp) (by simp) (by simp) (by simp) (by simp)
  have HB1 : Hid (Below w.heap.size w w1) := ((Below.refl _ _).alloc (Nat.le_refl _) _).trans (hb1.mono (by simp))
  clear hb1
  go_wp2_with fail
  refine (HP.out _).mono ?_
  rintro e1 w2 ⟨rfl, hb2⟩
  have HB2 : Hid (Below w.heap.size w w2) := bt (((HB1.out.setCell (Nat.le_refl _) _).setCell (Nat.le_refl _) _).alloc (by have := HB1.out.size; simpa using this) _) hb2
  clear hb2 z0 z1 z2 z3
  go_wp2_with fail
  refine (HR.out _).mono ?_
  rintro e1 w3 ⟨rfl, hb3⟩
  go_wp2_with fail
  go_ret
  exact ⟨rfl, bt HB2.out hb3⟩
set_option maxHeartbeats 1000000 in
theorem radd_diff (a b x y m n sa sb d W : Nat) (f : Int) (F : AddF a b x y) (M : AddM a b m n sa sb d f) (h : x < 9218868437227405312 ∧ y < 9218868437227405312 ∧ x ≠ 0 ∧ y ≠ 0) (hxy : y ≤ x) (_hf1 : -1074 ≤ f) (_hf2 : f ≤ 971) (_hd2 : f + (d : Int) ≤ 971) (hd : d ≤ 64) (hsa : bits .and .u64 (a : Int) 9223372036854775808 = (sa : Int)) (hsb : bits .and .u64 (b : Int) 9223372036854775808 = (sb : Int)) (hss : sa ≠ sb) (hlt : n ≤ m * 2 ^ d) (hxn : x ≠ y)
    (HR : Hid (∀ w1 : World, Calls Tryz.prog 48 #[.int .u64 (sa : Int), wn (m * 2 ^ d - n), .int .i64 f, .bool false] w1 fun e' w' => e' = .returned (.int .u64 (W : Int)) ∧ Below w1.heap.size w1 w')) (w : World) :
    Calls Tryz.prog 11 #[.int .u64 (a : Int), .int .u64 (b : Int)] w fun e w' => e = .returned (.int .u64 (W : Int)) ∧ Below w.heap.size w w' := by
  obtain ⟨hx, hy⟩ := F
  have HA : Hid (∀ w1 : World, Calls Tryz.prog 46 #[.int .u64 (a : Int)] w1 fun e' w' => e' = .returned (.tuple #[.int .u64 (m : Int), .int .i64 (f + (d : Int))]) ∧ w' = w1) := M.ta
  have HB : Hid (∀ w1 : World, Calls Tryz.prog 46 #[.int .u64 (b : Int)] w1 fun e' w' => e' = .returned (.tuple #[.int .u64 (n : Int), .int .i64 f]) ∧ w' = w1) := M.tb
  have hml := M.ml
  have hnl := M.nl
  have b1 : decide ((9218868437227405312 : Int) < (x : Int)) = false := by simp; omega
  have b2 : decide ((9218868437227405312 : Int) < (y : Int)) = false := by simp; omega
  have b3 : ((x : Int) == 9218868437227405312) = false := beqN_f (y := 9218868437227405312) (by omega)
  have b5 : ((y : Int) == 9218868437227405312) = false := beqN_f (y := 9218868437227405312) (by omega)
  have b4 : ((x : Int) == 0) = false := beqN_f (y := 0) (by omega)
  have b6 : ((y : Int) == 0) = false := beqN_f (y := 0) (by omega)
  have b8 : ¬ x < y := by omega
  clear h M hxy
  have b9 : ¬ 64 < d := by omega
  have b10 : ((sa : Int) == (sb : Int)) = false := beqN_f hss
  have b11 : ((x : Int) == (y : Int)) = false := beqN_f hxn
  have hsum : m * 2 ^ d < 18446744073709551616 * 18446744073709551616 := by
    have h2 : (2 : Nat) ^ d ≤ 2 ^ 64 := Nat.pow_le_pow_right (by decide) hd
    have e : (2 : Nat) ^ 64 = 18446744073709551616 := by decide
    have : m * 2 ^ d ≤ 9007199254740992 * 18446744073709551616 := Nat.mul_le_mul (by omega) (by omega)
    omega
  have HP : Hid (∀ w1 : World, Calls Tryz.prog 50 #[wn (m * 2 ^ d), .agg #[.int .u64 0, .int .u64 (n : Int)]] w1 fun e w' => e = .returned (wn (m * 2 ^ d - n)) ∧ Below w1.heap.size w1 w') := fun w1 => by
    have := minus_n (m * 2 ^ d) n hlt hsum w1
    rw [wn_lit n (by omega)] at this
    exact this
  clear hsum hss hlt hxn
  obtain ⟨V, HV⟩ : ∃ V, Hid (m * 2 ^ d - n = V) := ⟨_, rfl⟩
  rw [HV.out] at HP HR
  go_enter Tryz.func11, Tryz.ntmps11
  go_wp2_with fail
  refine (HA.out w).mono ?_
  rintro e1 wx ⟨rfl, hwx⟩
  rw [hwx]
  clear hwx wx
  go_wp2_with fail
  refine (HB.out _).mono ?_
  rintro e1 wx ⟨rfl, hwx⟩
  rw [hwx]
  clear hwx wx
  go_wp2_with fail
  rw [show f + (d : Int) - f = (d : Int) by omega]
  refine (left_small m d hml (by omega) _).mono ?_
  rintro e1 w1 ⟨rfl, hb1⟩
  obtain ⟨z0, z1, z2, z3, z4⟩ := keep2 (B := w.heap.size) (x := .int .u64 0) (y := .int .u64 (m : Int)) hb1 (by simp) (by simp) (by simp) (by simp) (by simp)
  have HB1 : Hid (Below w.heap.size w w1) := ((Below.refl _ _).alloc (Nat.le_refl _) _).trans (hb1.mono (by simp))
  clear hb1
  go_wp2_with fail
  refine (HP.out _).mono ?_
  rintro e1 w2 ⟨rfl, hb2⟩
  have HB2 : Hid (Below w.heap.size w w2) := bt (((HB1.out.setCell (Nat.le_refl _) _).setCell (Nat.le_refl _) _).alloc (by have := HB1.out.size; simpa using this) _) hb2
  clear hb2 z0 z1 z2 z3
  go_wp2_with fail
  refine (HR.out _).mono ?_
  rintro e1 w3 ⟨rfl, hb3⟩
  go_wp2_with fail
  go_ret
  exact ⟨rfl, bt HB2.out hb3⟩
set_option maxHeartbeats 1000000 in
theorem radd_opp (a b x y m n sa sb d : Nat) (f : Int) (F : AddF a b x y) (M : AddM a b m n sa sb d f) (h : x < 9218868437227405312 ∧ y < 9218868437227405312 ∧ x ≠ 0 ∧ y ≠ 0) (_hf1 : -1074 ≤ f) (_hf2 : f ≤ 971) (_hd2 : f + (d : Int) ≤ 971) (hd : d ≤ 64) (hsa : bits .and .u64 (a : Int) 9223372036854775808 = (sa : Int)) (hsb : bits .and .u64 (b : Int) 9223372036854775808 = (sb : Int)) (hss : sa ≠ sb) (hxn : x = y) (w : World) :
    Calls Tryz.prog 11 #[.int .u64 (a : Int), .int .u64 (b : Int)] w fun e w' => e = .returned (.int .u64 0) ∧ Below w.heap.size w w' := by
  obtain ⟨hx, hy⟩ := F
  have HA : Hid (∀ w1 : World, Calls Tryz.prog 46 #[.int .u64 (a : Int)] w1 fun e' w' => e' = .returned (.tuple #[.int .u64 (m : Int), .int .i64 (f + (d : Int))]) ∧ w' = w1) := M.ta
  have HB : Hid (∀ w1 : World, Calls Tryz.prog 46 #[.int .u64 (b : Int)] w1 fun e' w' => e' = .returned (.tuple #[.int .u64 (n : Int), .int .i64 f]) ∧ w' = w1) := M.tb
  have hml := M.ml
  have hnl := M.nl
  have b1 : decide ((9218868437227405312 : Int) < (x : Int)) = false := by simp; omega
  have b2 : decide ((9218868437227405312 : Int) < (y : Int)) = false := by simp; omega
  have b3 : ((x : Int) == 9218868437227405312) = false := beqN_f (y := 9218868437227405312) (by omega)
  have b5 : ((y : Int) == 9218868437227405312) = false := beqN_f (y := 9218868437227405312) (by omega)
  have b4 : ((x : Int) == 0) = false := beqN_f (y := 0) (by omega)
  have b6 : ((y : Int) == 0) = false := beqN_f (y := 0) (by omega)
  have b8 : ¬ x < y := by omega
  clear h M
  have b9 : ¬ 64 < d := by omega
  have b10 : ((sa : Int) == (sb : Int)) = false := beqN_f hss
  have b11 : ((x : Int) == (y : Int)) = true := eqB_t hxn
  clear hss hxn
  go_enter Tryz.func11, Tryz.ntmps11
  go_wp2_with fail
  refine (HA.out w).mono ?_
  rintro e1 wx ⟨rfl, hwx⟩
  rw [hwx]
  clear hwx wx
  go_wp2_with fail
  refine (HB.out _).mono ?_
  rintro e1 wx ⟨rfl, hwx⟩
  rw [hwx]
  clear hwx wx
  go_wp2_with fail
  rw [show f + (d : Int) - f = (d : Int) by omega]
  refine (left_small m d hml (by omega) _).mono ?_
  rintro e1 w1 ⟨rfl, hb1⟩
  obtain ⟨z0, z1, z2, z3, z4⟩ := keep2 (B := w.heap.size) (x := .int .u64 0) (y := .int .u64 (m : Int)) hb1 (by simp) (by simp) (by simp) (by simp) (by simp)
  have HB1 : Hid (Below w.heap.size w w1) := ((Below.refl _ _).alloc (Nat.le_refl _) _).trans (hb1.mono (by simp))
  clear hb1
  go_wp2_with fail
  go_ret
  exact ⟨rfl, ((HB1.out.setCell (Nat.le_refl _) _).setCell (Nat.le_refl _) _).alloc (by have := HB1.out.size; simpa using this) _⟩
end Go.Proofs.YtdklpgkheakapaaGreatDoor
