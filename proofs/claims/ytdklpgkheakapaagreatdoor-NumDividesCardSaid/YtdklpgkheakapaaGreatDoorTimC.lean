import Derived.Test.YtdklpgkheakapaaGreatDoorTimB
namespace Go.Proofs.YtdklpgkheakapaaGreatDoor
open Go.RowKit Gn

set_option maxHeartbeats 1000000 in
theorem rmul_inf (a b x y z W : Nat) (F : MulF a b x y z) (hW : bits .or .u64 (z : Int) 9218868437227405312 = (W : Int)) (h : x ≤ 9218868437227405312 ∧ y ≤ 9218868437227405312 ∧ ((x = 9218868437227405312 ∧ y ≠ 0) ∨ (x ≠ 0 ∧ x ≠ 9218868437227405312 ∧ y = 9218868437227405312))) (w : World) :
    Calls Tryz.prog 15 #[.int .u64 (a : Int), .int .u64 (b : Int)] w fun e w' => e = .returned (.int .u64 (W : Int)) ∧ Below w.heap.size w w' := by
  obtain ⟨hx, hy, hz⟩ := F
  rcases (show (x = 9218868437227405312 ∧ y ≠ 0) ∨ (x ≠ 0 ∧ x ≠ 9218868437227405312 ∧ y = 9218868437227405312) from h.2.2) with h1 | h1
  · have b1 : decide ((9218868437227405312 : Int) < (x : Int)) = false := by simp; omega
    have b2 : decide ((9218868437227405312 : Int) < (y : Int)) = false := by simp; omega
    have b3 : ((x : Int) == 9218868437227405312) = true := eqB_t (y := 9218868437227405312) (by omega)
    have b6 : ((y : Int) == 0) = false := beqN_f (y := 0) (by omega)
    have b4 : ((x : Int) == 0) = false := beqN_f (y := 0) (by omega)
    clear h1
    clear h
    go_enter Tryz.func15, Tryz.ntmps15
    go_wp2
    go_ret
    exact ⟨rfl, Below.refl _ _⟩
  · have b1 : decide ((9218868437227405312 : Int) < (x : Int)) = false := by simp; omega
    have b2 : decide ((9218868437227405312 : Int) < (y : Int)) = false := by simp; omega
    have b3 : ((x : Int) == 9218868437227405312) = false := beqN_f (y := 9218868437227405312) (by omega)
    have b4 : ((x : Int) == 0) = false := beqN_f (y := 0) (by omega)
    have b5 : ((y : Int) == 9218868437227405312) = true := eqB_t (y := 9218868437227405312) (by omega)
    have b6 : ((y : Int) == 0) = false := beqN_f (y := 0) (by omega)
    clear h1
    clear h
    go_enter Tryz.func15, Tryz.ntmps15
    go_wp2
    go_ret
    exact ⟨rfl, Below.refl _ _⟩
set_option maxHeartbeats 1000000 in
theorem rmul_zero (a b x y z : Nat) (F : MulF a b x y z) (h : x < 9218868437227405312 ∧ y < 9218868437227405312 ∧ (x = 0 ∨ (x ≠ 0 ∧ y = 0))) (w : World) :
    Calls Tryz.prog 15 #[.int .u64 (a : Int), .int .u64 (b : Int)] w fun e w' => e = .returned (.int .u64 (z : Int)) ∧ Below w.heap.size w w' := by
  obtain ⟨hx, hy, hz⟩ := F
  rcases (show x = 0 ∨ (x ≠ 0 ∧ y = 0) from h.2.2) with h1 | h1
  · have b1 : decide ((9218868437227405312 : Int) < (x : Int)) = false := by simp; omega
    have b2 : decide ((9218868437227405312 : Int) < (y : Int)) = false := by simp; omega
    have b3 : ((x : Int) == 9218868437227405312) = false := beqN_f (y := 9218868437227405312) (by omega)
    have b4 : ((x : Int) == 0) = true := eqB_t (y := 0) (by omega)
    have b5 : ((y : Int) == 9218868437227405312) = false := beqN_f (y := 9218868437227405312) (by omega)
    clear h1
    clear h
    go_enter Tryz.func15, Tryz.ntmps15
    go_wp2
    go_ret
    exact ⟨rfl, Below.refl _ _⟩
  · have b1 : decide ((9218868437227405312 : Int) < (x : Int)) = false := by simp; omega
    have b2 : decide ((9218868437227405312 : Int) < (y : Int)) = false := by simp; omega
    have b3 : ((x : Int) == 9218868437227405312) = false := beqN_f (y := 9218868437227405312) (by omega)
    have b4 : ((x : Int) == 0) = false := beqN_f (y := 0) (by omega)
    have b5 : ((y : Int) == 9218868437227405312) = false := beqN_f (y := 9218868437227405312) (by omega)
    have b6 : ((y : Int) == 0) = true := eqB_t (y := 0) (by omega)
    clear h1
    clear h
    go_enter Tryz.func15, Tryz.ntmps15
    go_wp2
    go_ret
    exact ⟨rfl, Below.refl _ _⟩
set_option maxHeartbeats 1000000 in
theorem rmul_num (a b x y z m n W : Nat) (e f : Int) (ha : a < 18446744073709551616) (hb : b < 18446744073709551616) (F : MulF a b x y z) (h : x < 9218868437227405312 ∧ y < 9218868437227405312 ∧ x ≠ 0 ∧ y ≠ 0) (hm : tkM a = m) (he : tkE a = e) (hn : tkM b = n) (hf : tkE b = f)
    (he1 : -1074 ≤ e) (he2 : e ≤ 971) (hf1 : -1074 ≤ f) (hf2 : f ≤ 971) (hm2 : m < 18446744073709551616) (hn2 : n < 18446744073709551616)
    (HR : Hid (∀ w1 : World, Calls Tryz.prog 48 #[.int .u64 (z : Int), wn (m * n), .int .i64 (e + f), .bool false] w1 fun e' w' => e' = .returned (.int .u64 (W : Int)) ∧ Below w1.heap.size w1 w')) (w : World) :
    Calls Tryz.prog 15 #[.int .u64 (a : Int), .int .u64 (b : Int)] w fun e w' => e = .returned (.int .u64 (W : Int)) ∧ Below w.heap.size w w' := by
  obtain ⟨hx, hy, hz⟩ := F
  have b1 : decide ((9218868437227405312 : Int) < (x : Int)) = false := by simp; omega
  have b2 : decide ((9218868437227405312 : Int) < (y : Int)) = false := by simp; omega
  have b3 : ((x : Int) == 9218868437227405312) = false := beqN_f (y := 9218868437227405312) (by omega)
  have b4 : ((x : Int) == 0) = false := beqN_f (y := 0) (by omega)
  have b5 : ((y : Int) == 9218868437227405312) = false := beqN_f (y := 9218868437227405312) (by omega)
  have b6 : ((y : Int) == 0) = false := beqN_f (y := 0) (by omega)
  have HA : Hid (∀ w1 : World, Calls Tryz.prog 46 #[.int .u64 (a : Int)] w1 fun e' w' => e' = .returned (.tuple #[.int .u64 (m : Int), .int .i64 e]) ∧ w' = w1) := fun w1 => taken_as a m e ha hm he w1
  have HB : Hid (∀ w1 : World, Calls Tryz.prog 46 #[.int .u64 (b : Int)] w1 fun e' w' => e' = .returned (.tuple #[.int .u64 (n : Int), .int .i64 f]) ∧ w' = w1) := fun w1 => taken_as b n f hb hn hf w1
  clear h hm he hn hf
  go_enter Tryz.func15, Tryz.ntmps15
  go_wp2_with fail
  refine (HA.out w).mono ?_
  rintro e1 w1 ⟨rfl, rfl⟩
  go_wp2_with fail
  refine (HB.out _).mono ?_
  rintro e1 w1 ⟨rfl, rfl⟩
  go_wp2_with fail
  refine (times_any m n hm2 hn2 _).mono ?_
  rintro e1 w1 ⟨rfl, hb1⟩
  go_wp2_with fail
  refine (HR.out _).mono ?_
  rintro e1 w2 ⟨rfl, hb2⟩
  go_wp2_with fail
  go_ret
  exact ⟨rfl, bt hb1 hb2⟩

theorem mg_pos {r : Nat} (h : r ≠ 0) : mg r ≠ 0 := by
  unfold mg; split <;> omega
theorem ex_le {r : Nat} (h : r < 9218868437227405312) : ex r ≤ 2045 := by unfold ex; omega
theorem rmul_any (a b : Nat) (ha : a < 18446744073709551616) (hb : b < 18446744073709551616) (w : World) :
    Calls Tryz.prog 15 #[.int .u64 (a : Int), .int .u64 (b : Int)] w fun e w' => e = .returned (.int .u64 (mulW a b : Int)) ∧ Below w.heap.size w w' := by
  obtain ⟨s, r, hr, rfl⟩ := wd_cases a ha
  obtain ⟨t, q, hq, rfl⟩ := wd_cases b hb
  have F := mulF s t r q hr hq
  rcases (show 9218868437227405312 < r ∨ 9218868437227405312 < q ∨ (r = 9218868437227405312 ∧ q = 0) ∨ (r = 0 ∧ q = 9218868437227405312) ∨ (r = 9218868437227405312 ∧ q = 9218868437227405312) ∨ (r = 9218868437227405312 ∧ q < 9218868437227405312 ∧ q ≠ 0) ∨ (q = 9218868437227405312 ∧ r < 9218868437227405312 ∧ r ≠ 0) ∨ (r < 9218868437227405312 ∧ q < 9218868437227405312 ∧ (r = 0 ∨ q = 0)) ∨ (r < 9218868437227405312 ∧ q < 9218868437227405312 ∧ r ≠ 0 ∧ q ≠ 0) by omega) with h | h | ⟨h1, h2⟩ | ⟨h1, h2⟩ | ⟨h1, h2⟩ | ⟨h1, h2, h3⟩ | ⟨h1, h2, h3⟩ | ⟨h1, h2, h3⟩ | ⟨h1, h2, h3, h4⟩
  · rw [mul_n1 s t r q hr h]; exact rmul_nan _ _ _ _ _ F (.inl (.inl h)) w
  · rw [mul_n2 s t r q hq h]; exact rmul_nan _ _ _ _ _ F (.inl (.inr h)) w
  · subst h1; subst h2; rw [mul_iz]; exact rmul_nan _ _ _ _ _ F (.inr (.inl ⟨rfl, rfl⟩)) w
  · subst h1; subst h2; rw [mul_zi]; exact rmul_nan _ _ _ _ _ F (.inr (.inr ⟨rfl, rfl⟩)) w
  · subst h1; subst h2; rw [mul_ii]; exact rmul_inf _ _ _ _ _ _ F (or_inf _) ⟨by omega, by omega, .inl ⟨rfl, by omega⟩⟩ w
  · subst h1; rw [mul_if s t q h2 h3]; exact rmul_inf _ _ _ _ _ _ F (or_inf _) ⟨by omega, by omega, .inl ⟨rfl, h3⟩⟩ w
  · subst h1; rw [mul_fi s t r h2 h3]; exact rmul_inf _ _ _ _ _ _ F (or_inf _) ⟨by omega, by omega, .inr ⟨h3, by omega, rfl⟩⟩ w
  · rw [mul_z s t r q h1 h2 h3, wd_nought]; exact rmul_zero _ _ _ _ _ F ⟨h1, h2, by omega⟩ w
  · rw [mul_num s t r q h1 h2]
    obtain ⟨m1, m2⟩ := tk_wd s r h1
    obtain ⟨n1, n2⟩ := tk_wd t q h2
    have l1 := mg_lt r
    have l2 := mg_lt q
    have p1 := mg_pos h3
    have p2 := mg_pos h4
    have x1 := ex_le h1
    have x2 := ex_le h2
    have hne : mg r * mg q ≠ 0 := Nat.mul_ne_zero p1 p2
    have hlog : (mg r * mg q).log2 ≤ 126 := by
      have : mg r * mg q < 2 ^ 127 := by
        have h9 : mg r * mg q ≤ 9007199254740992 * 9007199254740992 := Nat.mul_le_mul (by omega) (by omega)
        have e9 : (9007199254740992 * 9007199254740992 : Nat) < 2 ^ 127 := by decide
        omega
      have := (Nat.log2_lt hne).2 this
      omega
    exact rmul_num _ _ _ _ _ _ _ _ _ _ ha hb F ⟨h1, h2, h3, h4⟩ m1 m2 n1 n2 (by omega) (by omega) (by omega) (by omega) (by omega) (by omega) (fun w1 => rounded_W (s ^^ t) (mg r * mg q) _ hne (by omega) (by omega) hlog w1) w
end Go.Proofs.YtdklpgkheakapaaGreatDoor
