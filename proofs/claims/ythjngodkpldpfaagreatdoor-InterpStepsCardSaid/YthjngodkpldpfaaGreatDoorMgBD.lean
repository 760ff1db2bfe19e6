import Derived.Test.YthjngodkpldpfaaGreatDoorMgBC
import Derived.Test.YthjngodkpldpfaaGreatDoorMgBA

section
namespace Go.Proofs.YthjngodkpldpfaaGreatDoor
open Go.RowKit Gn

structure AddF (a b x y : Nat) : Prop where
  hx : bits .andNot .u64 (a : Int) 9223372036854775808 = (x : Int)
  hy : bits .andNot .u64 (b : Int) 9223372036854775808 = (y : Int)
theorem addF (s t : Bool) (r q : Nat) (hr : r < 9223372036854775808) (hq : q < 9223372036854775808) : AddF (wd s r) (wd t q) r q :=
  ⟨by rw [abs_andNot _ (wd_lt s r hr), wd_mod s r hr], by rw [abs_andNot _ (wd_lt t q hq), wd_mod t q hq]⟩

set_option maxHeartbeats 1000000 in
theorem radd_n1 (a b x y : Nat) (F : AddF a b x y) (h : 9218868437227405312 < x) (w : World) :
    Calls Tryz.prog 52 #[.int .u64 (a : Int), .int .u64 (b : Int)] w fun e w' => e = .returned (.int .u64 9221120237041090561) ∧ Below w.heap.size w w' := by
  obtain ⟨hx, hy⟩ := F
  have b1 : decide ((9218868437227405312 : Int) < (x : Int)) = true := by simp; omega
  clear h
  go_enter Tryz.func52, Tryz.ntmps52
  go_wp2
  go_ret
  exact ⟨rfl, Below.refl _ _⟩
set_option maxHeartbeats 1000000 in
theorem radd_n2 (a b x y : Nat) (F : AddF a b x y) (h : ¬ 9218868437227405312 < x ∧ 9218868437227405312 < y) (w : World) :
    Calls Tryz.prog 52 #[.int .u64 (a : Int), .int .u64 (b : Int)] w fun e w' => e = .returned (.int .u64 9221120237041090561) ∧ Below w.heap.size w w' := by
  obtain ⟨hx, hy⟩ := F
  have b1 : decide ((9218868437227405312 : Int) < (x : Int)) = false := by simp; omega
  have b2 : decide ((9218868437227405312 : Int) < (y : Int)) = true := by simp; omega
  clear h
  go_enter Tryz.func52, Tryz.ntmps52
  go_wp2
  go_ret
  exact ⟨rfl, Below.refl _ _⟩
set_option maxHeartbeats 1000000 in
theorem radd_n3 (a b x y : Nat) (F : AddF a b x y) (h : x = 9218868437227405312 ∧ y = 9218868437227405312 ∧ a ≠ b) (w : World) :
    Calls Tryz.prog 52 #[.int .u64 (a : Int), .int .u64 (b : Int)] w fun e w' => e = .returned (.int .u64 9221120237041090561) ∧ Below w.heap.size w w' := by
  obtain ⟨hx, hy⟩ := F
  have b1 : decide ((9218868437227405312 : Int) < (x : Int)) = false := by simp; omega
  have b2 : decide ((9218868437227405312 : Int) < (y : Int)) = false := by simp; omega
  have b3 : ((x : Int) == 9218868437227405312) = true := eqB_t (y := 9218868437227405312) (by omega)
  have b5 : ((y : Int) == 9218868437227405312) = true := eqB_t (y := 9218868437227405312) (by omega)
  have b7 : ((a : Int) != (b : Int)) = true := bneN_t (by omega)
  clear h
  go_enter Tryz.func52, Tryz.ntmps52
  go_wp2
  go_ret
  exact ⟨rfl, Below.refl _ _⟩
set_option maxHeartbeats 1000000 in
theorem radd_i1 (a b x y : Nat) (F : AddF a b x y) (h : x = 9218868437227405312 ∧ y = 9218868437227405312 ∧ a = b) (w : World) :
    Calls Tryz.prog 52 #[.int .u64 (a : Int), .int .u64 (b : Int)] w fun e w' => e = .returned (.int .u64 (a : Int)) ∧ Below w.heap.size w w' := by
  obtain ⟨hx, hy⟩ := F
  have b1 : decide ((9218868437227405312 : Int) < (x : Int)) = false := by simp; omega
  have b2 : decide ((9218868437227405312 : Int) < (y : Int)) = false := by simp; omega
  have b3 : ((x : Int) == 9218868437227405312) = true := eqB_t (y := 9218868437227405312) (by omega)
  have b5 : ((y : Int) == 9218868437227405312) = true := eqB_t (y := 9218868437227405312) (by omega)
  have b7 : ((a : Int) != (b : Int)) = false := bneN_f (by omega)
  clear h
  go_enter Tryz.func52, Tryz.ntmps52
  go_wp2
  go_ret
  exact ⟨rfl, Below.refl _ _⟩
set_option maxHeartbeats 1000000 in
theorem radd_i2 (a b x y : Nat) (F : AddF a b x y) (h : x = 9218868437227405312 ∧ y < 9218868437227405312) (w : World) :
    Calls Tryz.prog 52 #[.int .u64 (a : Int), .int .u64 (b : Int)] w fun e w' => e = .returned (.int .u64 (a : Int)) ∧ Below w.heap.size w w' := by
  obtain ⟨hx, hy⟩ := F
  have b1 : decide ((9218868437227405312 : Int) < (x : Int)) = false := by simp; omega
  have b2 : decide ((9218868437227405312 : Int) < (y : Int)) = false := by simp; omega
  have b3 : ((x : Int) == 9218868437227405312) = true := eqB_t (y := 9218868437227405312) (by omega)
  have b5 : ((y : Int) == 9218868437227405312) = false := beqN_f (y := 9218868437227405312) (by omega)
  clear h
  go_enter Tryz.func52, Tryz.ntmps52
  go_wp2
  go_ret
  exact ⟨rfl, Below.refl _ _⟩
set_option maxHeartbeats 1000000 in
theorem radd_i3 (a b x y : Nat) (F : AddF a b x y) (h : x < 9218868437227405312 ∧ y = 9218868437227405312) (w : World) :
    Calls Tryz.prog 52 #[.int .u64 (a : Int), .int .u64 (b : Int)] w fun e w' => e = .returned (.int .u64 (b : Int)) ∧ Below w.heap.size w w' := by
  obtain ⟨hx, hy⟩ := F
  have b1 : decide ((9218868437227405312 : Int) < (x : Int)) = false := by simp; omega
  have b2 : decide ((9218868437227405312 : Int) < (y : Int)) = false := by simp; omega
  have b3 : ((x : Int) == 9218868437227405312) = false := beqN_f (y := 9218868437227405312) (by omega)
  have b5 : ((y : Int) == 9218868437227405312) = true := eqB_t (y := 9218868437227405312) (by omega)
  clear h
  go_enter Tryz.func52, Tryz.ntmps52
  go_wp2
  go_ret
  exact ⟨rfl, Below.refl _ _⟩
set_option maxHeartbeats 1000000 in
theorem radd_z1 (a b x y : Nat) (F : AddF a b x y) (z : Nat) (hz : bits .and .u64 (a : Int) (b : Int) = (z : Int)) (h : x = 0 ∧ y = 0) (w : World) :
    Calls Tryz.prog 52 #[.int .u64 (a : Int), .int .u64 (b : Int)] w fun e w' => e = .returned (.int .u64 (z : Int)) ∧ Below w.heap.size w w' := by
  obtain ⟨hx, hy⟩ := F
  have b1 : decide ((9218868437227405312 : Int) < (x : Int)) = false := by simp; omega
  have b2 : decide ((9218868437227405312 : Int) < (y : Int)) = false := by simp; omega
  have b3 : ((x : Int) == 9218868437227405312) = false := beqN_f (y := 9218868437227405312) (by omega)
  have b5 : ((y : Int) == 9218868437227405312) = false := beqN_f (y := 9218868437227405312) (by omega)
  have b4 : ((x : Int) == 0) = true := eqB_t (y := 0) (by omega)
  have b6 : ((y : Int) == 0) = true := eqB_t (y := 0) (by omega)
  clear h
  go_enter Tryz.func52, Tryz.ntmps52
  go_wp2
  go_ret
  exact ⟨rfl, Below.refl _ _⟩
set_option maxHeartbeats 1000000 in
theorem radd_z2 (a b x y : Nat) (F : AddF a b x y) (h : x = 0 ∧ y < 9218868437227405312 ∧ y ≠ 0) (w : World) :
    Calls Tryz.prog 52 #[.int .u64 (a : Int), .int .u64 (b : Int)] w fun e w' => e = .returned (.int .u64 (b : Int)) ∧ Below w.heap.size w w' := by
  obtain ⟨hx, hy⟩ := F
  have b1 : decide ((9218868437227405312 : Int) < (x : Int)) = false := by simp; omega
  have b2 : decide ((9218868437227405312 : Int) < (y : Int)) = false := by simp; omega
  have b3 : ((x : Int) == 9218868437227405312) = false := beqN_f (y := 9218868437227405312) (by omega)
  have b5 : ((y : Int) == 9218868437227405312) = false := beqN_f (y := 9218868437227405312) (by omega)
  have b4 : ((x : Int) == 0) = true := eqB_t (y := 0) (by omega)
  have b6 : ((y : Int) == 0) = false := beqN_f (y := 0) (by omega)
  clear h
  go_enter Tryz.func52, Tryz.ntmps52
  go_wp2
  go_ret
  exact ⟨rfl, Below.refl _ _⟩
set_option maxHeartbeats 1000000 in
theorem radd_z3 (a b x y : Nat) (F : AddF a b x y) (h : x < 9218868437227405312 ∧ x ≠ 0 ∧ y = 0) (w : World) :
    Calls Tryz.prog 52 #[.int .u64 (a : Int), .int .u64 (b : Int)] w fun e w' => e = .returned (.int .u64 (a : Int)) ∧ Below w.heap.size w w' := by
  obtain ⟨hx, hy⟩ := F
  have b1 : decide ((9218868437227405312 : Int) < (x : Int)) = false := by simp; omega
  have b2 : decide ((9218868437227405312 : Int) < (y : Int)) = false := by simp; omega
  have b3 : ((x : Int) == 9218868437227405312) = false := beqN_f (y := 9218868437227405312) (by omega)
  have b5 : ((y : Int) == 9218868437227405312) = false := beqN_f (y := 9218868437227405312) (by omega)
  have b4 : ((x : Int) == 0) = false := beqN_f (y := 0) (by omega)
  have b6 : ((y : Int) == 0) = true := eqB_t (y := 0) (by omega)
  clear h
  go_enter Tryz.func52, Tryz.ntmps52
  go_wp2
  go_ret
  exact ⟨rfl, Below.refl _ _⟩
set_option maxHeartbeats 1000000 in
theorem radd_lt (a b x y W : Nat) (F : AddF a b x y) (h : x < 9218868437227405312 ∧ y < 9218868437227405312 ∧ x ≠ 0 ∧ y ≠ 0) (hxy : x < y)
    (HR : Hid (∀ w1 : World, Calls Tryz.prog 52 #[.int .u64 (b : Int), .int .u64 (a : Int)] w1 fun e w' => e = .returned (.int .u64 (W : Int)) ∧ Below w1.heap.size w1 w')) (w : World) :
    Calls Tryz.prog 52 #[.int .u64 (a : Int), .int .u64 (b : Int)] w fun e w' => e = .returned (.int .u64 (W : Int)) ∧ Below w.heap.size w w' := by
  obtain ⟨hx, hy⟩ := F
  have b1 : decide ((9218868437227405312 : Int) < (x : Int)) = false := by simp; omega
  have b2 : decide ((9218868437227405312 : Int) < (y : Int)) = false := by simp; omega
  have b3 : ((x : Int) == 9218868437227405312) = false := beqN_f (y := 9218868437227405312) (by omega)
  have b5 : ((y : Int) == 9218868437227405312) = false := beqN_f (y := 9218868437227405312) (by omega)
  have b4 : ((x : Int) == 0) = false := beqN_f (y := 0) (by omega)
  have b6 : ((y : Int) == 0) = false := beqN_f (y := 0) (by omega)
  have b8 : decide ((x : Int) < (y : Int)) = true := by simp; omega
  clear h
  go_enter Tryz.func52, Tryz.ntmps52
  go_wp2_with fail
  refine (HR.out w).mono ?_
  rintro e w1 ⟨rfl, hb1⟩
  go_wp2_with fail
  go_ret
  exact ⟨rfl, hb1⟩
theorem left_small (a i : Nat) (ha : a < 9007199254740992) (hi : i ≤ 64) (w : World) :
    Calls Tryz.prog 96 #[.agg #[.int .u64 0, .int .u64 (a : Int)], .int .i64 (i : Int)] w fun e w' => e = .returned (wn (a * 2 ^ i)) ∧ Below w.heap.size w w' := by
  have h1 : a * 2 ^ i < 18446744073709551616 * 18446744073709551616 := by
    have h2 : (2 : Nat) ^ i ≤ 2 ^ 64 := Nat.pow_le_pow_right (by decide) hi
    have e : (2 : Nat) ^ 64 = 18446744073709551616 := by decide
    have : a * 2 ^ i ≤ 9007199254740992 * 18446744073709551616 := Nat.mul_le_mul (by omega) (by omega)
    omega
  have := left_n a i (by omega) h1 w
  have e : wn a = .agg #[.int .u64 0, .int .u64 (a : Int)] := by
    show Value.agg #[.int .u64 (hiN a : Int), .int .u64 (loN a : Int)] = _
    rw [show hiN a = 0 by unfold hiN; omega, show loN a = a by unfold loN; omega]; rfl
  rw [e] at this
  exact this
theorem wn_lit (n : Nat) (h : n < 18446744073709551616) : wn n = .agg #[.int .u64 0, .int .u64 (n : Int)] := by
  show Value.agg #[.int .u64 (hiN n : Int), .int .u64 (loN n : Int)] = _
  rw [show hiN n = 0 by unfold hiN; omega, show loN n = n by unfold loN; omega]; rfl

structure AddM (a b m n sa sb d : Nat) (f : Int) : Prop where
  ta : ∀ w1 : World, Calls Tryz.prog 64 #[.int .u64 (a : Int)] w1 fun e' w' => e' = .returned (.tuple #[.int .u64 (m : Int), .int .i64 (f + (d : Int))]) ∧ w' = w1
  tb : ∀ w1 : World, Calls Tryz.prog 64 #[.int .u64 (b : Int)] w1 fun e' w' => e' = .returned (.tuple #[.int .u64 (n : Int), .int .i64 f]) ∧ w' = w1
  ml : m < 9007199254740992
  nl : n < 9007199254740992

set_option maxHeartbeats 1000000 in
theorem radd_far (a b x y m n sa sb d : Nat) (f : Int) (F : AddF a b x y) (M : AddM a b m n sa sb d f) (h : x < 9218868437227405312 ∧ y < 9218868437227405312 ∧ x ≠ 0 ∧ y ≠ 0) (hxy : y ≤ x) (_hf1 : -1074 ≤ f) (_hf2 : f ≤ 971) (_hd2 : f + (d : Int) ≤ 971) (hd : 64 < d) (w : World) :
    Calls Tryz.prog 52 #[.int .u64 (a : Int), .int .u64 (b : Int)] w fun e w' => e = .returned (.int .u64 (a : Int)) ∧ Below w.heap.size w w' := by
  obtain ⟨hx, hy⟩ := F
  have HA : Hid (∀ w1 : World, Calls Tryz.prog 64 #[.int .u64 (a : Int)] w1 fun e' w' => e' = .returned (.tuple #[.int .u64 (m : Int), .int .i64 (f + (d : Int))]) ∧ w' = w1) := M.ta
  have HB : Hid (∀ w1 : World, Calls Tryz.prog 64 #[.int .u64 (b : Int)] w1 fun e' w' => e' = .returned (.tuple #[.int .u64 (n : Int), .int .i64 f]) ∧ w' = w1) := M.tb
  have hml := M.ml
  have hnl := M.nl
  have b1 : decide ((9218868437227405312 : Int) < (x : Int)) = false := by simp; omega
  have b2 : decide ((9218868437227405312 : Int) < (y : Int)) = false := by simp; omega
  have b3 : ((x : Int) == 9218868437227405312) = false := beqN_f (y := 9218868437227405312) (by omega)
  have b5 : ((y : Int) == 9218868437227405312) = false := beqN_f (y := 9218868437227405312) (by omega)
  have b4 : ((x : Int) == 0) = false := beqN_f (y := 0) (by omega)
  have b6 : ((y : Int) == 0) = false := beqN_f (y := 0) (by omega)
  have b8 : ¬ x < y := by omega
  clear h M hxy
  have b9 : 64 < d := by omega
  go_enter Tryz.func52, Tryz.ntmps52
  go_wp2_with fail
  refine (HA.out w).mono ?_
  rintro e1 wx ⟨rfl, hwx⟩
  rw [hwx]
  clear hwx wx
  go_wp2_with fail
  refine (HB.out _).mono ?_
  rintro e1 wx ⟨rfl, hwx⟩
  rw [hwx]
  clear hwx wx
  go_wp2_with fail
  go_ret
  exact ⟨rfl, Below.refl _ _⟩
set_option maxHeartbeats 1000000 in
theorem radd_same (a b x y m n sa sb d W : Nat) (f : Int) (F : AddF a b x y) (M : AddM a b m n sa sb d f) (h : x < 9218868437227405312 ∧ y < 9218868437227405312 ∧ x ≠ 0 ∧ y ≠ 0) (hxy : y ≤ x) (_hf1 : -1074 ≤ f) (_hf2 : f ≤ 971) (_hd2 : f + (d : Int) ≤ 971) (hd : d ≤ 64) (hsa : bits .and .u64 (a : Int) 9223372036854775808 = (sa : Int)) (hsb : bits .and .u64 (b : Int) 9223372036854775808 = (sb : Int)) (hss : sa = sb)
    (HR : Hid (∀ w1 : World, Calls Tryz.prog 97 #[.int .u64 (sa : Int), wn (m * 2 ^ d + n), .int .i64 f, .bool false] w1 fun e' w' => e' = .returned (.int .u64 (W : Int)) ∧ Below w1.heap.size w1 w')) (w : World) :
    Calls Tryz.prog 52 #[.int .u64 (a : Int), .int .u64 (b : Int)] w fun e w' => e = .returned (.int .u64 (W : Int)) ∧ Below w.heap.size w w' := by
  obtain ⟨hx, hy⟩ := F
  have HA : Hid (∀ w1 : World, Calls Tryz.prog 64 #[.int .u64 (a : Int)] w1 fun e' w' => e' = .returned (.tuple #[.int .u64 (m : Int), .int .i64 (f + (d : Int))]) ∧ w' = w1) := M.ta
  have HB : Hid (∀ w1 : World, Calls Tryz.prog 64 #[.int .u64 (b : Int)] w1 fun e' w' => e' = .returned (.tuple #[.int .u64 (n : Int), .int .i64 f]) ∧ w' = w1) := M.tb
  have hml := M.ml
  have hnl := M.nl
  have b1 : decide ((9218868437227405312 : Int) < (x : Int)) = false := by simp; omega
  have b2 : decide ((9218868437227405312 : Int) < (y : Int)) = false := by simp; omega
  have b3 : ((x : Int) == 9218868437227405312) = false := beqN_f (y := 9218868437227405312) (by omega)
  have b5 : ((y : Int) == 9218868437227405312) = false := beqN_f (y := 9218868437227405312) (by omega)
  have b4 : ((x : Int) == 0) = false := beqN_f (y := 0) (by omega)
  have b6 : ((y : Int) == 0) = false := beqN_f (y := 0) (by omega)
  have b8 : ¬ x < y := by omega
  clear h M hxy
  have b9 : ¬ 64 < d := by omega
  have b10 : ((sa : Int) == (sb : Int)) = true := eqB_t hss
  have hsum : m * 2 ^ d + n < 18446744073709551616 * 18446744073709551616 := by
    have h2 : (2 : Nat) ^ d ≤ 2 ^ 64 := Nat.pow_le_pow_right (by decide) hd
    have e : (2 : Nat) ^ 64 = 18446744073709551616 := by decide
    have : m * 2 ^ d ≤ 9007199254740992 * 18446744073709551616 := Nat.mul_le_mul (by omega) (by omega)
    omega
  have HP : Hid (∀ w1 : World, Calls Tryz.prog 98 #[wn (m * 2 ^ d), .agg #[.int .u64 0, .int .u64 (n : Int)]] w1 fun e w' => e = .returned (wn (m * 2 ^ d + n)) ∧ Below w1.heap.size w1 w') := fun w1 => by
    have := plus_n (m * 2 ^ d) n hsum w1
    rw [wn_lit n (by omega)] at this
    exact this
  clear hsum hss
  obtain ⟨V, HV⟩ : ∃ V, Hid (m * 2 ^ d + n = V) := ⟨_, rfl⟩
  rw [HV.out] at HP HR
  go_enter Tryz.func52, Tryz.ntmps52
  go_wp2_with fail
  refine (HA.out w).mono ?_
  rintro e1 wx ⟨rfl, hwx⟩
  rw [hwx]
  clear hwx wx
  go_wp2_with fail
  refine (HB.out _).mono ?_
  rintro e1 wx ⟨rfl, hwx⟩
  rw [hwx]
  clear hwx wx
  go_wp2_with fail
  rw [show f + (d : Int) - f = (d : Int) by omega]
  refine (left_small m d hml (by omega) _).mono ?_
  rintro e1 w1 ⟨rfl, hb1⟩
  obtain ⟨z0, z1, z2, z3, z4⟩ := keep2 (B := w.heap.size) (x := .int .u64 0) (y := .int .u64 (m : Int)) hb1 (by simp) (by simp) (by simp) (by simp) (by simp)
  have HB1 : Hid (Below w.heap.size w w1) := ((Below.refl _ _).alloc (Nat.le_refl _) _).trans (hb1.mono (by simp))
  clear hb1
  go_wp2_with fail
  refine (HP.out _).mono ?_
  rintro e1 w2 ⟨rfl, hb2⟩
  have HB2 : Hid (Below w.heap.size w w2) := bt (((HB1.out.setCell (Nat.le_refl _) _).setCell (Nat.le_refl _) _).alloc (by have := HB1.out.size; simpa using this) _) hb2
  clear hb2 z0 z1 z2 z3
  go_wp2_with fail
  refine (HR.out _).mono ?_
  rintro e1 w3 ⟨rfl, hb3⟩
  go_wp2_with fail
  go_ret
  exact ⟨rfl, bt HB2.out hb3⟩
set_option maxHeartbeats 1000000 in
theorem radd_diff (a b x y m n sa sb d W : Nat) (f : Int) (F : AddF a b x y) (M : AddM a b m n sa sb d f) (h : x < 9218868437227405312 ∧ y < 9218868437227405312 ∧ x ≠ 0 ∧ y ≠ 0) (hxy : y ≤ x) (_hf1 : -1074 ≤ f) (_hf2 : f ≤ 971) (_hd2 : f + (d : Int) ≤ 971) (hd : d ≤ 64) (hsa : bits .and .u64 (a : Int) 9223372036854775808 = (sa : Int)) (hsb : bits .and .u64 (b : Int) 9223372036854775808 = (sb : Int)) (hss : sa ≠ sb) (hlt : n ≤ m * 2 ^ d) (hxn : x ≠ y)
    (HR : Hid (∀ w1 : World, Calls Tryz.prog 97 #[.int .u64 (sa : Int), wn (m * 2 ^ d - n), .int .i64 f, .bool false] w1 fun e' w' => e' = .returned (.int .u64 (W : Int)) ∧ Below w1.heap.size w1 w')) (w : World) :
    Calls Tryz.prog 52 #[.int .u64 (a : Int), .int .u64 (b : Int)] w fun e w' => e = .returned (.int .u64 (W : Int)) ∧ Below w.heap.size w w' := by
  obtain ⟨hx, hy⟩ := F
  have HA : Hid (∀ w1 : World, Calls Tryz.prog 64 #[.int .u64 (a : Int)] w1 fun e' w' => e' = .returned (.tuple #[.int .u64 (m : Int), .int .i64 (f + (d : Int))]) ∧ w' = w1) := M.ta
  have HB : Hid (∀ w1 : World, Calls Tryz.prog 64 #[.int .u64 (b : Int)] w1 fun e' w' => e' = .returned (.tuple #[.int .u64 (n : Int), .int .i64 f]) ∧ w' = w1) := M.tb
  have hml := M.ml
  have hnl := M.nl
  have b1 : decide ((9218868437227405312 : Int) < (x : Int)) = false := by simp; omega
  have b2 : decide ((9218868437227405312 : Int) < (y : Int)) = false := by simp; omega
  have b3 : ((x : Int) == 9218868437227405312) = false := beqN_f (y := 9218868437227405312) (by omega)
  have b5 : ((y : Int) == 9218868437227405312) = false := beqN_f (y := 9218868437227405312) (by omega)
  have b4 : ((x : Int) == 0) = false := beqN_f (y := 0) (by omega)
  have b6 : ((y : Int) == 0) = false := beqN_f (y := 0) (by omega)
  have b8 : ¬ x < y := by omega
  clear h M hxy
  have b9 : ¬ 64 < d := by omega
  have b10 : ((sa : Int) == (sb : Int)) = false := beqN_f hss
  have b11 : ((x : Int) == (y : Int)) = false := beqN_f hxn
  have hsum : m * 2 ^ d < 18446744073709551616 * 18446744073709551616 := by
    have h2 : (2 : Nat) ^ d ≤ 2 ^ 64 := Nat.pow_le_pow_right (by decide) hd
    have e : (2 : Nat) ^ 64 = 18446744073709551616 := by decide
    have : m * 2 ^ d ≤ 9007199254740992 * 18446744073709551616 := Nat.mul_le_mul (by omega) (by omega)
    omega
  have HP : Hid (∀ w1 : World, Calls Tryz.prog 99 #[wn (m * 2 ^ d), .agg #[.int .u64 0, .int .u64 (n : Int)]] w1 fun e w' => e = .returned (wn (m * 2 ^ d - n)) ∧ Below w1.heap.size w1 w') := fun w1 => by
    have := minus_n (m * 2 ^ d) n hlt hsum w1
    rw [wn_lit n (by omega)] at this
    exact this
  clear hsum hss hlt hxn
  obtain ⟨V, HV⟩ : ∃ V, Hid (m * 2 ^ d - n = V) := ⟨_, rfl⟩
  rw [HV.out] at HP HR
  go_enter Tryz.func52, Tryz.ntmps52
  go_wp2_with fail
  refine (HA.out w).mono ?_
  rintro e1 wx ⟨rfl, hwx⟩
  rw [hwx]
  clear hwx wx
  go_wp2_with fail
  refine (HB.out _).mono ?_
  rintro e1 wx ⟨rfl, hwx⟩
  rw [hwx]
  clear hwx wx
  go_wp2_with fail
  rw [show f + (d : Int) - f = (d : Int) by omega]
  refine (left_small m d hml (by omega) _).mono ?_
  rintro e1 w1 ⟨rfl, hb1⟩
  obtain ⟨z0, z1, z2, z3, z4⟩ := keep2 (B := w.heap.size) (x := .int .u64 0) (y := .int .u64 (m : Int)) hb1 (by simp) (by simp) (by simp) (by simp) (by simp)
  have HB1 : Hid (Below w.heap.size w w1) := ((Below.refl _ _).alloc (Nat.le_refl _) _).trans (hb1.mono (by simp))
  clear hb1
  go_wp2_with fail
  refine (HP.out _).mono ?_
  rintro e1 w2 ⟨rfl, hb2⟩
  have HB2 : Hid (Below w.heap.size w w2) := bt (((HB1.out.setCell (Nat.le_refl _) _).setCell (Nat.le_refl _) _).alloc (by have := HB1.out.size; simpa using this) _) hb2
  clear hb2 z0 z1 z2 z3
  go_wp2_with fail
  refine (HR.out _).mono ?_
  rintro e1 w3 ⟨rfl, hb3⟩
  go_wp2_with fail
  go_ret
  exact ⟨rfl, bt HB2.out hb3⟩
set_option maxHeartbeats 1000000 in
theorem radd_opp (a b x y m n sa sb d : Nat) (f : Int) (F : AddF a b x y) (M : AddM a b m n sa sb d f) (h : x < 9218868437227405312 ∧ y < 9218868437227405312 ∧ x ≠ 0 ∧ y ≠ 0) (_hf1 : -1074 ≤ f) (_hf2 : f ≤ 971) (_hd2 : f + (d : Int) ≤ 971) (hd : d ≤ 64) (hsa : bits .and .u64 (a : Int) 9223372036854775808 = (sa : Int)) (hsb : bits .and .u64 (b : Int) 9223372036854775808 = (sb : Int)) (hss : sa ≠ sb) (hxn : x = y) (w : World) :
    Calls Tryz.prog 52 #[.int .u64 (a : Int), .int .u64 (b : Int)] w fun e w' => e = .returned (.int .u64 0) ∧ Below w.heap.size w w' := by
  obtain ⟨hx, hy⟩ := F
  have HA : Hid (∀ w1 : World, Calls Tryz.prog 64 #[.int .u64 (a : Int)] w1 fun e' w' => e' = .returned (.tuple #[.int .u64 (m : Int), .int .i64 (f + (d : Int))]) ∧ w' = w1) := M.ta
  have HB : Hid (∀ w1 : World, Calls Tryz.prog 64 #[.int .u64 (b : Int)] w1 fun e' w' => e' = .returned (.tuple #[.int .u64 (n : Int), .int .i64 f]) ∧ w' = w1) := M.tb
  have hml := M.ml
  have hnl := M.nl
  have b1 : decide ((9218868437227405312 : Int) < (x : Int)) = false := by simp; omega
  have b2 : decide ((9218868437227405312 : Int) < (y : Int)) = false := by simp; omega
  have b3 : ((x : Int) == 9218868437227405312) = false := beqN_f (y := 9218868437227405312) (by omega)
  have b5 : ((y : Int) == 9218868437227405312) = false := beqN_f (y := 9218868437227405312) (by omega)
  have b4 : ((x : Int) == 0) = false := beqN_f (y := 0) (by omega)
  have b6 : ((y : Int) == 0) = false := beqN_f (y := 0) (by omega)
  have b8 : ¬ x < y := by omega
  clear h M
  have b9 : ¬ 64 < d := by omega
  have b10 : ((sa : Int) == (sb : Int)) = false := beqN_f hss
  have b11 : ((x : Int) == (y : Int)) = true := eqB_t hxn
  clear hss hxn
  go_enter Tryz.func52, Tryz.ntmps52
  go_wp2_with fail
  refine (HA.out w).mono ?_
  rintro e1 wx ⟨rfl, hwx⟩
  rw [hwx]
  clear hwx wx
  go_wp2_with fail
  refine (HB.out _).mono ?_
  rintro e1 wx ⟨rfl, hwx⟩
  rw [hwx]
  clear hwx wx
  go_wp2_with fail
  rw [show f + (d : Int) - f = (d : Int) by omega]
  refine (left_small m d hml (by omega) _).mono ?_
  rintro e1 w1 ⟨rfl, hb1⟩
  obtain ⟨z0, z1, z2, z3, z4⟩ := keep2 (B := w.heap.size) (x := .int .u64 0) (y := .int .u64 (m : Int)) hb1 (by simp) (by simp) (by simp) (by simp) (by simp)
  have HB1 : Hid (Below w.heap.size w w1) := ((Below.refl _ _).alloc (Nat.le_refl _) _).trans (hb1.mono (by simp))
  clear hb1
  go_wp2_with fail
  go_ret
  exact ⟨rfl, ((HB1.out.setCell (Nat.le_refl _) _).setCell (Nat.le_refl _) _).alloc (by have := HB1.out.size; simpa using this) _⟩
end Go.Proofs.YthjngodkpldpfaaGreatDoor
end

section
namespace Gn
open Ieee
theorem add_n1 (s t : Bool) (r q : Nat) (hr : r < 9223372036854775808) (h : 9218868437227405312 < r) : addW (wd s r) (wd t q) = 9221120237041090561 := by
  rw [add_ans, read_wd s r hr]
  have e : rd s r = .nan s (r - 9218868437227405312) := by unfold rd; rw [if_neg (by omega), if_neg (by omega), if_neg (by omega)]
  rw [e]
  cases double.read (wd t q) <;> rfl
theorem add_n2 (s t : Bool) (r q : Nat) (hq : q < 9223372036854775808) (h : 9218868437227405312 < q) : addW (wd s r) (wd t q) = 9221120237041090561 := by
  rw [add_ans, read_wd t q hq]
  have e : rd t q = .nan t (q - 9218868437227405312) := by unfold rd; rw [if_neg (by omega), if_neg (by omega), if_neg (by omega)]
  rw [e]
  cases double.read (wd s r) <;> rfl
theorem add_ii (s t : Bool) : addW (wd s 9218868437227405312) (wd t 9218868437227405312) = if s = t then wd s 9218868437227405312 else 9221120237041090561 := by
  rw [add_ans, read_wd s _ (by decide), read_wd t _ (by decide), rd_inf, rd_inf]
  cases s <;> cases t <;> decide
theorem rd_finite {s : Bool} {r : Nat} (hr : r < 9218868437227405312) : ∃ m e, rd s r = .number s m e := by
  unfold rd
  by_cases h : r < 4503599627370496
  · rw [if_pos h]; exact ⟨r, _, rfl⟩
  · rw [if_neg h, if_pos hr]; exact ⟨_, _, rfl⟩
theorem add_if (s t : Bool) (q : Nat) (hq : q < 9218868437227405312) : addW (wd s 9218868437227405312) (wd t q) = wd s 9218868437227405312 := by
  obtain ⟨m, e, he⟩ := rd_finite (s := t) hq
  rw [add_ans, read_wd s _ (by decide), read_wd t q (by omega), rd_inf, he, ← ans_inf]
  rfl
theorem add_fi (s t : Bool) (q : Nat) (hq : q < 9218868437227405312) : addW (wd s q) (wd t 9218868437227405312) = wd t 9218868437227405312 := by
  obtain ⟨m, e, he⟩ := rd_finite (s := s) hq
  rw [add_ans, read_wd t _ (by decide), read_wd s q (by omega), rd_inf, he, ← ans_inf]
  rfl
theorem sgn_z (s : Bool) : sgn s 0 = 0 := by cases s <;> rfl
theorem add_zf (s t : Bool) (q : Nat) (hq : q < 9218868437227405312) (h0 : q ≠ 0) : addW (wd s 0) (wd t q) = wd t q := by
  have hp : 0 < vl q := vl_pos (by omega)
  rw [add_fin s t 0 q (by decide) hq]
  unfold tot
  rw [vl_zero, sgn_z, Int.zero_add, sgn_sign t _ (by omega), sgn_natAbs, rn_vl hq]
theorem add_fz (s t : Bool) (q : Nat) (hq : q < 9218868437227405312) (h0 : q ≠ 0) : addW (wd s q) (wd t 0) = wd s q := by
  have hp : 0 < vl q := vl_pos (by omega)
  rw [add_fin s t q 0 hq (by decide)]
  unfold tot
  rw [vl_zero, sgn_z, Int.add_zero, sgn_sign s _ (by omega), sgn_natAbs, rn_vl hq]
theorem add_zz (s t : Bool) : addW (wd s 0) (wd t 0) = wd (s && t) 0 := by
  rw [add_fin s t 0 0 (by decide) (by decide)]
  unfold tot
  rw [vl_zero, sgn_z, sgn_z, Int.zero_add, if_pos rfl, show (0 : Int).natAbs = 0 from rfl]
  have : rn 0 = 0 := by have := rn_vl (r := 0) (by decide); rw [vl_zero] at this; exact this
  rw [this]
/-- the two amounts over one place -/
theorem common {r q d : Nat} (hd : ex r = ex q + d) : vl r = mg r * 2 ^ d * 2 ^ ex q ∧ vl q = mg q * 2 ^ ex q := by
  refine ⟨?_, vl_mg q⟩
  rw [vl_mg, hd, Nat.pow_add, Nat.mul_comm (2 ^ ex q), Nat.mul_assoc]
theorem small_q {q k : Nat} (h : ex q + 65 ≤ k) : 4 * vl q < 2 ^ k := by
  have h1 := mg_lt q
  have hp := Nat.two_pow_pos (ex q)
  have h2 : (2 : Nat) ^ (ex q + 65) ≤ 2 ^ k := Nat.pow_le_pow_right (by decide) h
  rw [Nat.pow_add, show (2 : Nat) ^ 65 = 36893488147419103232 by decide] at h2
  rw [vl_mg]
  have h3 : mg q * 2 ^ ex q ≤ 9007199254740992 * 2 ^ ex q := Nat.mul_le_mul_right _ (by omega)
  omega
end Gn
namespace Go.Proofs.YthjngodkpldpfaaGreatDoor
open Go.RowKit Gn
theorem and_zero (s t : Bool) : bits .and .u64 (wd s 0 : Int) (wd t 0 : Int) = (wd (s && t) 0 : Int) := by cases s <;> cases t <;> decide
theorem sg_top (s : Bool) (r : Nat) (hr : r < 9223372036854775808) : bits .and .u64 (wd s r : Int) 9223372036854775808 = (sg s : Int) := by rw [top_wd s r hr]; cases s <;> rfl

theorem radd_main (s t : Bool) (r q : Nat) (hr : r < 9218868437227405312) (hq : q < 9218868437227405312) (h0 : q ≠ 0) (hqr : q ≤ r) (w : World) :
    Calls Tryz.prog 52 #[.int .u64 (wd s r : Int), .int .u64 (wd t q : Int)] w fun e w' => e = .returned (.int .u64 (addW (wd s r) (wd t q) : Int)) ∧ Below w.heap.size w w' := by
  have F := addF s t r q (by omega) (by omega)
  have ha := wd_lt s r (by omega)
  have hb := wd_lt t q (by omega)
  obtain ⟨m1, m2⟩ := tk_wd s r hr
  obtain ⟨n1, n2⟩ := tk_wd t q hq
  have hex := ex_mono hqr
  obtain ⟨d, hd⟩ : ∃ d, ex r = ex q + d := ⟨ex r - ex q, by omega⟩
  have x1 := ex_le hr
  have M : AddM (wd s r) (wd t q) (mg r) (mg q) (sg s) (sg t) d ((ex q : Int) - 1074) := ⟨fun w1 => taken_as _ _ _ ha m1 (by rw [m2, hd]; omega) w1, fun w1 => taken_as _ _ _ hb n1 n2 w1, mg_lt r, mg_lt q⟩
  have hfin : r < 9218868437227405312 ∧ q < 9218868437227405312 ∧ r ≠ 0 ∧ q ≠ 0 := ⟨hr, hq, by omega, h0⟩
  obtain ⟨c1, c2⟩ := common hd
  have hml := mg_lt r
  have hnl := mg_lt q
  have hmp := mg_pos (r := r) (by omega)
  have hnp := mg_pos h0
  have hpd := Nat.two_pow_pos d
  have hpq := Nat.two_pow_pos (ex q)
  by_cases hfar : 64 < d
  · have hsm := small_q (q := q) (k := ex r) (by omega)
    have e : addW (wd s r) (wd t q) = wd s r := by
      by_cases hst : s = t
      · subst hst
        rw [add_same s r q hr hq (by omega), rn_up r (vl q) hr (by omega) (by omega)]
      · have : t = !s := by cases s <;> cases t <;> simp at hst ⊢
        subst this
        have hlt : q < r := by
          rcases Nat.lt_or_eq_of_le hqr with h9 | h9
          · exact h9
          · rw [h9] at hd; omega
        rw [add_diff s r q hr hq hlt, rn_down r (vl q) hr (by omega) (by omega)]
    rw [e]
    exact radd_far _ _ _ _ _ _ _ _ _ _ F M hfin hqr (by omega) (by omega) (by omega) hfar w
  · have hW : mg r * 2 ^ d + mg q < 2 ^ 127 := by
      have h2 : (2 : Nat) ^ d ≤ 2 ^ 64 := Nat.pow_le_pow_right (by decide) (by omega)
      have e64 : (2 : Nat) ^ 64 = 18446744073709551616 := by decide
      have h3 : mg r * 2 ^ d ≤ 9007199254740992 * 18446744073709551616 := Nat.mul_le_mul (by omega) (by omega)
      have e127 : (9007199254740992 * 18446744073709551616 + 9007199254740992 : Nat) < 2 ^ 127 := by decide
      omega
    have log_le : ∀ V : Nat, V ≠ 0 → V < 2 ^ 127 → V.log2 ≤ 126 := fun V hV hlt => by
      have := (Nat.log2_lt hV).2 hlt
      omega
    by_cases hst : s = t
    · subst hst
      rw [add_same s r q hr hq (by omega), c1, c2, ← Nat.add_mul, rn_scaled]
      exact radd_same _ _ _ _ _ _ _ _ _ _ _ F M hfin hqr (by omega) (by omega) (by omega) (by omega) (sg_top s r (by omega)) (sg_top s q (by omega)) rfl (fun w1 => rounded_W s (mg r * 2 ^ d + mg q) _ (by omega) (by omega) (by omega) (log_le _ (by omega) hW) w1) w
    · have : t = !s := by cases s <;> cases t <;> simp at hst ⊢
      subst this
      have hss : sg s ≠ sg (!s) := by cases s <;> decide
      by_cases heq : r = q
      · subst heq
        rw [add_opp s r hr]
        exact radd_opp _ _ _ _ _ _ _ _ _ _ F M hfin (by omega) (by omega) (by omega) (by omega) (sg_top s r (by omega)) (sg_top (!s) r (by omega)) hss rfl w
      · have hlt : q < r := by omega
        have hvl := vl_lt hlt
        have hle : mg q < mg r * 2 ^ d := by
          rw [c1, c2] at hvl
          exact Nat.lt_of_mul_lt_mul_right hvl
        rw [add_diff s r q hr hq hlt, c1, c2, ← Nat.sub_mul, rn_scaled]
        exact radd_diff _ _ _ _ _ _ _ _ _ _ _ F M hfin hqr (by omega) (by omega) (by omega) (by omega) (sg_top s r (by omega)) (sg_top (!s) q (by omega)) hss (by omega) heq (fun w1 => rounded_W s (mg r * 2 ^ d - mg q) _ (by omega) (by omega) (by omega) (log_le _ (by omega) (by omega)) w1) w

theorem radd_any (a b : Nat) (ha : a < 18446744073709551616) (hb : b < 18446744073709551616) (w : World) :
    Calls Tryz.prog 52 #[.int .u64 (a : Int), .int .u64 (b : Int)] w fun e w' => e = .returned (.int .u64 (addW a b : Int)) ∧ Below w.heap.size w w' := by
  obtain ⟨s, r, hr, rfl⟩ := wd_cases a ha
  obtain ⟨t, q, hq, rfl⟩ := wd_cases b hb
  have F := addF s t r q hr hq
  by_cases h1 : 9218868437227405312 < r
  · rw [add_n1 s t r q hr h1]; exact radd_n1 _ _ _ _ F h1 w
  by_cases h2 : 9218868437227405312 < q
  · rw [add_n2 s t r q hq h2]; exact radd_n2 _ _ _ _ F ⟨h1, h2⟩ w
  by_cases h3 : r = 9218868437227405312
  · subst h3
    by_cases h4 : q = 9218868437227405312
    · subst h4
      rw [add_ii]
      by_cases hst : s = t
      · subst hst; rw [if_pos rfl]; exact radd_i1 _ _ _ _ F ⟨rfl, rfl, rfl⟩ w
      · rw [if_neg hst]; exact radd_n3 _ _ _ _ F ⟨rfl, rfl, fun h => hst (wd_inj (by decide) (by decide) h).1⟩ w
    · rw [add_if s t q (by omega)]; exact radd_i2 _ _ _ _ F ⟨rfl, by omega⟩ w
  by_cases h4 : q = 9218868437227405312
  · subst h4; rw [add_fi s t r (by omega)]; exact radd_i3 _ _ _ _ F ⟨by omega, rfl⟩ w
  by_cases h5 : r = 0
  · subst h5
    by_cases h6 : q = 0
    · subst h6; rw [add_zz]; exact radd_z1 _ _ _ _ F _ (and_zero s t) ⟨rfl, rfl⟩ w
    · rw [add_zf s t q (by omega) h6]; exact radd_z2 _ _ _ _ F ⟨rfl, by omega, h6⟩ w
  by_cases h6 : q = 0
  · subst h6; rw [add_fz s t r (by omega) h5]; exact radd_z3 _ _ _ _ F ⟨by omega, h5, rfl⟩ w
  rcases Nat.lt_or_ge r q with h7 | h7
  · rw [add_comm (wd s r)]
    exact radd_lt _ _ _ _ _ F ⟨by omega, by omega, h5, h6⟩ h7 (fun w1 => radd_main t s q r (by omega) (by omega) h5 (by omega) w1) w
  · exact radd_main s t r q (by omega) (by omega) h6 h7 w

set_option maxHeartbeats 400000 in
theorem rsub_any (a b : Nat) (ha : a < 18446744073709551616) (hb : b < 18446744073709551616) (w : World) :
    Calls Tryz.prog 53 #[.int .u64 (a : Int), .int .u64 (b : Int)] w fun e w' => e = .returned (.int .u64 (subW a b : Int)) ∧ Below w.heap.size w w' := by
  have hn : negW b < 18446744073709551616 := neg_lt b hb
  have HS : Hid (subW a b = addW a (negW b)) := (show subW a b = addW a (negW b) from rfl)
  go_enter Tryz.func53, Tryz.ntmps53
  go_wp2_with fail
  refine (rneg_any b hb _).mono ?_
  rintro e wx ⟨rfl, hwx⟩
  rw [hwx]
  clear hwx wx
  go_wp2_with fail
  refine (radd_any a (negW b) ha hn w).mono ?_
  rintro e w1 ⟨rfl, hb1⟩
  go_wp2_with fail
  go_ret
  exact ⟨by rw [HS.out]; rfl, hb1⟩
end Go.Proofs.YthjngodkpldpfaaGreatDoor
end

section
namespace Go.Proofs.YthjngodkpldpfaaGreatDoor
open Go.RowKit Gn

theorem lo_even (V : Nat) : loN V % 2 = V % 2 := by unfold loN; omega
theorem div_step (X Q r n b t : Nat) (hX : X = Q * n + r) (hlt : t * n ≤ 2 * r + b) (hr : 2 * r + b - t * n < n) (hn : 0 < n) : (2 * X + b) / n = 2 * Q + t ∧ (2 * X + b) % n = 2 * r + b - t * n := by
  have e : 2 * X + b = (2 * r + b - t * n) + n * (2 * Q + t) := by
    rw [hX, Nat.mul_add n, Nat.mul_comm n (2 * Q), Nat.mul_assoc 2 Q n, Nat.mul_comm n t]
    omega
  rw [e]
  exact ⟨by rw [Nat.add_mul_div_left _ _ hn, Nat.div_eq_of_lt hr, Nat.zero_add], by rw [Nat.add_mul_mod_self_left, Nat.mod_eq_of_lt hr]⟩
theorem half_div (W i : Nat) : W / 2 ^ i = 2 * (W / 2 ^ (i + 1)) + W / 2 ^ i % 2 := by
  rw [Nat.pow_succ, ← Nat.div_div_eq_div_mul]
  omega
theorem or_bit (r b : Nat) (hr : r < 9007199254740992) (hb : b < 2) : bits .or .u64 ((r : Int) * 2) (b : Int) = ((2 * r + b : Nat) : Int) := by
  rw [show (r : Int) * 2 = ((r * 2 : Nat) : Int) by simp, u64_or_nat _ _ (by omega) (by omega), nat_join 1 _ _ (by omega) (by omega)]
  congr 1; omega
theorem box_lo {w1 : World} {B C D : Nat} (h : Box w1 B C) (hh : hiN D = hiN C) : Box (w1.setCell ⟨B, 1, none⟩ (.int .u64 (loN D : Int))) B D :=
  ⟨by rw [hh]; simp [h.c0, go_sem], by simp [h.c1, go_sem], by simp [h.f0], by simp [h.f1], by simp [h.lt]⟩
theorem box_one {w1 : World} {B V D k : Nat} (h : Box w1 B V) (hne : B ≠ D) (x : Value) : Box (w1.setCell ⟨D, k, none⟩ x) B V := by
  have e : (w1.setCell ⟨D, k, none⟩ x).heap[B]? = w1.heap[B]? := Below.heap_setCell _ ⟨D, k, none⟩ _ B hne
  exact ⟨(World.cell?_of_block e).trans h.c0, (World.cell?_of_block e).trans h.c1, (World.frozen?_of_block e).trans h.f0, (World.frozen?_of_block e).trans h.f1, by simp [h.lt]⟩
theorem or_one (V : Nat) (hV : V % 2 = 0) : bits .or .u64 (loN V : Int) 1 = (loN (V + 1) : Int) := by
  have h1 := lo_even V
  have h2 : loN V < 18446744073709551616 := by unfold loN; omega
  rw [show (1 : Int) = ((1 : Nat) : Int) from rfl, u64_or_nat _ _ h2 (by decide), nat_join 1 _ _ (by omega) (by decide)]
  congr 1
  unfold loN at *
  omega
theorem hi_one (V : Nat) (hV : V % 2 = 0) : hiN (V + 1) = hiN V := by unfold hiN; omega
set_option maxHeartbeats 400000 in
theorem right_zero (hi lo : Nat) (w : World) :
    Calls Tryz.prog 125 #[wv hi lo, .int .i64 0] w fun e w' => e = .returned (wv hi lo) ∧ Below w.heap.size w w' := by
  go_enter Tryz.func125, Tryz.ntmps125
  go_wp2
  exact bodyPost_ret (v := wv hi lo) (by simp [results, Tryz.results125, go_sem]) rfl ⟨rfl, ((Below.refl _ _).alloc (Nat.le_refl _) _).alloc (by simp) _⟩
theorem left_one (Q : Nat) (hQ : Q < 2 ^ 124) (w : World) :
    Calls Tryz.prog 96 #[wn Q, .int .i64 1] w fun e w' => e = .returned (wn (2 * Q)) ∧ Below w.heap.size w w' := by
  have h := left_n Q 1 (by decide) (by
    have e : (2 : Nat) ^ 124 * 2 ≤ 18446744073709551616 * 18446744073709551616 := by decide
    omega) w
  rw [show Q * 2 ^ 1 = 2 * Q by omega] at h
  exact h
theorem right_any (W i : Nat) (hi : i ≤ 127) (hW : W < 18446744073709551616 * 18446744073709551616) (w : World) :
    Calls Tryz.prog 125 #[wn W, .int .i64 (i : Int)] w fun e w' => e = .returned (wn (W / 2 ^ i)) ∧ Below w.heap.size w w' := by
  rcases Nat.eq_zero_or_pos i with h | h
  · subst h
    rw [Nat.pow_zero, Nat.div_one]
    exact right_zero (hiN W) (loN W) w
  · exact right_n W i hi h hW w

set_option maxHeartbeats 2000000 in
set_option maxRecDepth 8000 in
theorem by_any (W n : Nat) (hW : W < 2 ^ 124) (hn0 : 0 < n) (hn : n < 9007199254740992) (w : World) :
    Calls Tryz.prog 101 #[wn W, .int .u64 (n : Int)] w fun e w' => e = .returned (.tuple #[wn (W / n), .bool (decide (0 < W % n))]) ∧ Below w.heap.size w w' := by
  have hWW : W < 18446744073709551616 * 18446744073709551616 := Nat.lt_trans hW (by decide)
  have HW := (show Hid (W < 2 ^ 124) from hW)
  have HWW := (show Hid (W < 18446744073709551616 * 18446744073709551616) from hWW)
  clear hW hWW
  go_enter Tryz.func101, Tryz.ntmps101
  go_wp2_with fail
  go_loopw [7, 8] (fun u v wr => ∃ j r : Nat, v = .int .i64 ((j : Int) - 1) ∧ j ≤ 128 ∧ u = .int .u64 (r : Int) ∧ r < n ∧ Hid (r = W / 2 ^ j % n) ∧ Hid (Box wr w.heap.size W) ∧ Hid (Box wr (w.heap.size + 1) 0) ∧ Hid (Box wr (w.heap.size + 1 + 1) (W / 2 ^ j / n)) ∧ Hid (Below w.heap.size w wr)) (fun _ v _ => (intOf v + 1).toNat)
  case atStart =>
    have h128 : W / 2 ^ 128 = 0 := Nat.div_eq_of_lt (Nat.lt_trans HW.out (by decide))
    have hz0 : (hiN 0 : Int) = 0 := rfl
    have hz1 : (loN 0 : Int) = 0 := rfl
    refine ⟨128, 0, rfl, by omega, rfl, hn0, (show 0 = W / 2 ^ 128 % n by rw [h128, Nat.zero_mod]), ?_, ?_, ?_, ?_⟩
    · exact ⟨by simp [go_sem], by simp [go_sem], by simp [go_sem], by simp [go_sem], by simp; omega⟩
    · exact ⟨by rw [hz0]; simp [go_sem], by rw [hz1]; simp [go_sem], by simp [go_sem], by simp [go_sem], by simp⟩
    · rw [h128, Nat.zero_div]
      exact ⟨by rw [hz0]; simp [go_sem], by rw [hz1]; simp [go_sem], by simp [go_sem], by simp [go_sem], by simp⟩
    · exact (((Below.refl _ _).alloc (Nat.le_refl _) _).alloc (by simp) _).alloc (by simp; omega) _
  case round =>
    obtain ⟨j, r, rfl, hj, rfl, hrn, HR, HB2, HB4, HB6, HBL⟩ := hrel
    rcases Nat.eq_zero_or_pos j with h0 | h0
    · subst h0
      rw [Nat.pow_zero, Nat.div_one] at HR HB6
      obtain ⟨Q, hQ⟩ : ∃ Q, Q = W / n := ⟨_, rfl⟩
      rw [← hQ] at HB6
      have HQ := (show Hid (Q = W / n) from hQ)
      obtain ⟨y0, y1, y2, y3, y4⟩ := HB6.out
      obtain ⟨x0, x1, x2, x3, x4⟩ := HB4.out
      have bneg : decide ((0 : Int) ≤ ((0 : Nat) : Int) - 1) = false := by decide
      clear hQ HB2 HB6
      go_wp2
      have c9 := cells2 (c := .int .u64 (hiN Q : Int)) (d := .int .u64 (loN Q : Int)) x0 x1
      exact bodyPost_ret (v := .tuple #[wn Q, .bool (decide (0 < r))]) (by simp [results, Tryz.results101, go_sem, c9.1, c9.2]) rfl ⟨by rw [HQ.out, HR.out], (HBL.out.setCell (by simp) _).setCell (by simp) _⟩
    · obtain ⟨i, rfl⟩ : ∃ i, j = i + 1 := ⟨j - 1, by omega⟩
      rw [show ((i + 1 : Nat) : Int) - 1 = (i : Int) by omega]
      obtain ⟨x0, x1, x2, x3, x4⟩ := HB2.out
      obtain ⟨Q, hQ⟩ : ∃ Q, Q = W / 2 ^ (i + 1) / n := ⟨_, rfl⟩
      rw [← hQ] at HB6
      have hQ124 : Q < 2 ^ 124 := by
        rw [hQ]
        exact Nat.lt_of_le_of_lt (Nat.le_trans (Nat.div_le_self _ _) (Nat.div_le_self _ _)) HW.out
      have hXr : W / 2 ^ (i + 1) = Q * n + r := by rw [HR.out, hQ]; have := Nat.div_add_mod (W / 2 ^ (i + 1)) n; rw [Nat.mul_comm]; omega
      obtain ⟨b, hbb⟩ : ∃ b, b = W / 2 ^ i % 2 := ⟨_, rfl⟩
      have hb2 : b < 2 := by omega
      have hVi := half_div W i
      rw [← hbb, hXr] at hVi
      have hst := div_step (Q * n + r) Q r n b
      obtain ⟨V, hV⟩ : ∃ V, V = W / 2 ^ i := ⟨_, rfl⟩
      have ho : bits .and .u64 (loN V : Int) 1 = (b : Int) := by
        rw [odd_and _ (by unfold loN; omega), lo_even, hbb, hV]
      have hor := or_bit r b (by omega) hb2
      obtain ⟨R1, hR1⟩ : ∃ R1, R1 = 2 * r + b := ⟨_, rfl⟩
      rw [← hR1] at hor
      have H1 := (show Hid (V = 2 * (Q * n + r) + b) from hV.trans hVi)
      have HV := (show Hid (V = W / 2 ^ i) from hV)
      have HST := (show Hid (∀ t, Q * n + r = Q * n + r → t * n ≤ 2 * r + b → 2 * r + b - t * n < n → 0 < n → (2 * (Q * n + r) + b) / n = 2 * Q + t ∧ (2 * (Q * n + r) + b) % n = 2 * r + b - t * n) from hst)
      have HRT : Hid (∀ w9 : World, Calls Tryz.prog 125 #[wn W, .int .i64 (i : Int)] w9 fun e w' => e = .returned (wn V) ∧ Below w9.heap.size w9 w') := fun w9 => by
        rw [hV]; exact right_any W i (by omega) HWW.out w9
      have HL1 := (show Hid (∀ w9 : World, Calls Tryz.prog 96 #[wn Q, .int .i64 1] w9 fun e w' => e = .returned (wn (2 * Q)) ∧ Below w9.heap.size w9 w') from fun w9 => left_one Q hQ124 w9)
      have HR1 := (show Hid (R1 = 2 * r + b) from hR1)
      have hR1n : R1 < 2 * n := by omega
      clear hQ hQ124 hXr hbb hVi hst hV hR1
      go_wp2_with fail
      refine (HRT.out _).mono ?_
      rintro e w1 ⟨rfl, hb1⟩
      have K2 := (show Hid (Box w1 w.heap.size W) from HB2.out.keep hb1 HB2.out.lt)
      have K4 := (show Hid (Box w1 (w.heap.size + 1) 0) from HB4.out.keep hb1 HB4.out.lt)
      obtain ⟨y0, y1, y2, y3, y4⟩ := HB6.out.keep hb1 HB6.out.lt
      have KB := (show Hid (Below w.heap.size w w1) from bt HBL.out hb1)
      clear x0 x1 x2 x3 x4 hb1 HB2 HB4 HB6 HBL HRT
      go_wp2_with fail
      refine (HL1.out _).mono ?_
      rintro e w2 ⟨rfl, hb2'⟩
      have ba : Below w1.heap.size w1 w2 := ((Below.refl _ _).alloc (Nat.le_refl _) _).trans (hb2'.mono (by simp))
      have M2 := (show Hid (Box w2 w.heap.size W) from K2.out.keep ba K2.out.lt)
      have M4 := (show Hid (Box w2 (w.heap.size + 1) 0) from K4.out.keep ba K4.out.lt)
      have M6 : Box w2 (w.heap.size + 1 + 1) Q := Box.keep ⟨y0, y1, y2, y3, y4⟩ ba y4
      have MB := (show Hid (Below w.heap.size w w2) from bt KB.out ba)
      have S6 := (show Hid (Box w2 (w.heap.size + 1 + 1) Q) from M6)
      obtain ⟨z0, z1, z2, z3, z4⟩ := M6
      clear y0 y1 y2 y3 y4 ba hb2' K2 K4 KB HL1
      by_cases hge : n ≤ R1
      · have hq2 := or_one (2 * Q) (by omega)
        have HQ1 := (show Hid (hiN (2 * Q + 1) = hiN (2 * Q)) from hi_one (2 * Q) (by omega))
        obtain ⟨R2, hR2⟩ : ∃ R2 : Nat, R2 = R1 - n := ⟨_, rfl⟩
        have hsub : IntKind.u64.wrap ((R1 : Int) - (n : Int)) = (R2 : Int) := by rw [IntKind.wrap_u64]; omega
        have hsub2 : (R1 : Int) - (n : Int) = (R2 : Int) := by omega
        have HS2 := (show Hid ((R1 : Int) - (n : Int) = (R2 : Int)) from hsub2)
        have HR2 := (show Hid (R2 = R1 - n) from hR2)
        clear hR2 hsub2
        go_wp2_with fail
        have e9 := HST.out 1 trivial (by have := HR1.out; omega) (by have := HR1.out; omega) hn0
        have v9 := H1.out
        rw [← v9, HV.out] at e9
        refine ⟨⟨i, R2, rfl, by omega, by first | rfl | rw [HS2.out], by have := HR2.out; omega, (show R2 = W / 2 ^ i % n from by have a := e9.2; have b := HR1.out; have c := HR2.out; omega), ?_, ?_, ?_, ?_⟩, by simp [intOf]⟩
        · exact box_one (box_other M2.out (by omega) _ _) (by omega) _
        · exact box_one (box_other M4.out (by omega) _ _) (by omega) _
        · rw [e9.1]; exact box_lo (box_set S6.out) HQ1.out
        · exact ((MB.out.setCell (by simp; omega) _).setCell (by simp; omega) _).setCell (by simp; omega) _
      · go_wp2_with fail
        have e9 := HST.out 0 trivial (by omega) (by have := HR1.out; omega) hn0
        have v9 := H1.out
        rw [← v9, HV.out] at e9
        refine ⟨⟨i, R1, rfl, by omega, rfl, by omega, (show R1 = W / 2 ^ i % n from by have a := e9.2; have b := HR1.out; omega), ?_, ?_, ?_, ?_⟩, by simp [intOf]⟩
        · exact box_other M2.out (by omega) _ _
        · exact box_other M4.out (by omega) _ _
        · rw [e9.1]; exact box_set S6.out
        · exact (MB.out.setCell (by simp; omega) _).setCell (by simp; omega) _
end Go.Proofs.YthjngodkpldpfaaGreatDoor
end
