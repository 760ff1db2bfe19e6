import Derived.Test.YteokcgclmgleiaaDoorWalkA
import Derived.Deep.Draws
namespace Go.Proofs.YteokcgclmgleiaaDoor
open Go.RowKit

/-- the bits that the tape gives a NaN -/
def nanN (w : World) (x y : Nat) : Nat := (Question.nanBits .f64 x y).cut (w.tape w.drawn (.nanBits .f64 x y))
theorem nanN_lt (w : World) (x y : Nat) : nanN w x y < 18446744073709551616 := by
  unfold nanN Question.cut
  dsimp only
  generalize w.tape w.drawn (.nanBits .f64 x y) = t
  omega
theorem nanN_canon (w : World) (x y : Nat) : Gn.canonW (nanN w x y) = 9221120237041090561 := by
  unfold Gn.canonW
  rw [if_pos]
  unfold nanN Question.cut
  dsimp only
  generalize w.tape w.drawn (.nanBits .f64 x y) = t
  have h1 : t / 2 % (2 ^ 52 - 1) < 4503599627370495 := Nat.mod_lt _ (by decide)
  have h2 : t % 2 < 2 := Nat.mod_lt _ (by decide)
  generalize t / 2 % (2 ^ 52 - 1) = q at *
  generalize t % 2 = b at *
  omega
theorem run_float_none {P : Program} (w : World) (op : BinOp) (t : TypeId) (x y : Nat) (ho : op = .add ∨ op = .mul ∨ op = .quo) (h : floatBits op .f64 x y = none) : (binOp op t (.float .f64 x) (.float .f64 y)).run P w = .ok (.float .f64 (nanN w x y)) w.drew := by
  unfold floatBits at h
  rcases ho with rfl | rfl | rfl <;> simp only at h <;> simp [binOp, Op.floatArith, h, nanN, Question.forced]

set_option maxHeartbeats 400000 in
theorem add_any (a b : Nat) (w : World) :
    Calls Tryd.prog 9 #[.int .u64 (a : Int), .int .u64 (b : Int)] w fun e w' => e = .returned (.int .u64 (Gn.addW a b : Int)) ∧ ∃ n, w' = w.drewN n := by
  have hc := Gn.canon_add a b
  unfold Gn.addW at *
  cases hr : Ieee.double.add a b with
  | none =>
    clear hc
    have hb := fun (w : World) (t : TypeId) => run_float_none (P := Tryd.prog) w .add t a b (.inl rfl) hr
    have hl := fun w => nanN_lt w a b
    have hn := fun w => nanN_canon w a b
    go_enter Tryd.func9, Tryd.ntmps9
    go_wp2_with (first | (go_at_call 26; refine (floatOf_any _ _).mono ?_; rintro e w' ⟨rfl, rfl⟩) | (go_at_call 25; refine (bitsOf_any _ (hl _) _).mono ?_; rintro e w' ⟨rfl, rfl⟩))
    go_ret
    exact ⟨rfl, 1, rfl⟩
  | some r =>
    have hl : r < 18446744073709551616 := Ieee.double.add_lt hr
    have hb := fun (w : World) (t : TypeId) => run_float_arith (P := Tryd.prog) w .add t .f64 a b r hr
    have hn : Gn.canonW r = r := by rw [hr] at hc; exact hc
    clear hc
    go_enter Tryd.func9, Tryd.ntmps9
    go_wp2_with (first | (go_at_call 26; refine (floatOf_any _ _).mono ?_; rintro e w' ⟨rfl, rfl⟩) | (go_at_call 25; refine (bitsOf_any r hl _).mono ?_; rintro e w' ⟨rfl, rfl⟩))
    go_ret
    exact ⟨rfl, 0, rfl⟩

set_option maxHeartbeats 400000 in
theorem mul_any (a b : Nat) (w : World) :
    Calls Tryd.prog 11 #[.int .u64 (a : Int), .int .u64 (b : Int)] w fun e w' => e = .returned (.int .u64 (Gn.mulW a b : Int)) ∧ ∃ n, w' = w.drewN n := by
  have hc := Gn.canon_mul a b
  unfold Gn.mulW at *
  cases hr : Ieee.double.mul a b with
  | none =>
    clear hc
    have hb := fun (w : World) (t : TypeId) => run_float_none (P := Tryd.prog) w .mul t a b (.inr (.inl rfl)) hr
    have hl := fun w => nanN_lt w a b
    have hn := fun w => nanN_canon w a b
    go_enter Tryd.func11, Tryd.ntmps11
    go_wp2_with (first | (go_at_call 26; refine (floatOf_any _ _).mono ?_; rintro e w' ⟨rfl, rfl⟩) | (go_at_call 25; refine (bitsOf_any _ (hl _) _).mono ?_; rintro e w' ⟨rfl, rfl⟩))
    go_ret
    exact ⟨rfl, 1, rfl⟩
  | some r =>
    have hl : r < 18446744073709551616 := Ieee.double.mul_lt hr
    have hb := fun (w : World) (t : TypeId) => run_float_arith (P := Tryd.prog) w .mul t .f64 a b r hr
    have hn : Gn.canonW r = r := by rw [hr] at hc; exact hc
    clear hc
    go_enter Tryd.func11, Tryd.ntmps11
    go_wp2_with (first | (go_at_call 26; refine (floatOf_any _ _).mono ?_; rintro e w' ⟨rfl, rfl⟩) | (go_at_call 25; refine (bitsOf_any r hl _).mono ?_; rintro e w' ⟨rfl, rfl⟩))
    go_ret
    exact ⟨rfl, 0, rfl⟩

set_option maxHeartbeats 400000 in
theorem div_any (a b : Nat) (w : World) :
    Calls Tryd.prog 12 #[.int .u64 (a : Int), .int .u64 (b : Int)] w fun e w' => e = .returned (.int .u64 (Gn.divW a b : Int)) ∧ ∃ n, w' = w.drewN n := by
  have hc := Gn.canon_div a b
  unfold Gn.divW at *
  cases hr : Ieee.double.div a b with
  | none =>
    clear hc
    have hb := fun (w : World) (t : TypeId) => run_float_none (P := Tryd.prog) w .quo t a b (.inr (.inr rfl)) hr
    have hl := fun w => nanN_lt w a b
    have hn := fun w => nanN_canon w a b
    go_enter Tryd.func12, Tryd.ntmps12
    go_wp2_with (first | (go_at_call 26; refine (floatOf_any _ _).mono ?_; rintro e w' ⟨rfl, rfl⟩) | (go_at_call 25; refine (bitsOf_any _ (hl _) _).mono ?_; rintro e w' ⟨rfl, rfl⟩))
    go_ret
    exact ⟨rfl, 1, rfl⟩
  | some r =>
    have hl : r < 18446744073709551616 := Ieee.double.div_lt hr
    have hb := fun (w : World) (t : TypeId) => run_float_arith (P := Tryd.prog) w .quo t .f64 a b r hr
    have hn : Gn.canonW r = r := by rw [hr] at hc; exact hc
    clear hc
    go_enter Tryd.func12, Tryd.ntmps12
    go_wp2_with (first | (go_at_call 26; refine (floatOf_any _ _).mono ?_; rintro e w' ⟨rfl, rfl⟩) | (go_at_call 25; refine (bitsOf_any r hl _).mono ?_; rintro e w' ⟨rfl, rfl⟩))
    go_ret
    exact ⟨rfl, 0, rfl⟩

set_option maxHeartbeats 400000 in
theorem sub_any (a b : Nat) (hb : b < 18446744073709551616) (w : World) :
    Calls Tryd.prog 10 #[.int .u64 (a : Int), .int .u64 (b : Int)] w fun e w' => e = .returned (.int .u64 (Gn.subW a b : Int)) ∧ ∃ n, w' = w.drewN n := by
  unfold Gn.subW
  go_enter Tryd.func10, Tryd.ntmps10
  go_wp2_with (first | (go_at_call 15; refine (neg_any b hb _).mono ?_; rintro e w' ⟨rfl, rfl⟩) | (go_at_call 9; refine (add_any _ _ _).mono ?_; rintro e w' ⟨rfl, n, rfl⟩))
  go_ret
  exact ⟨rfl, _, rfl⟩

def ltW (a b : Nat) : Bool := Ieee.double.order a b == some .lt
def eqW (a b : Nat) : Bool := Ieee.double.order a b == some .eq
set_option maxHeartbeats 400000 in
theorem less_any (a b : Nat) (w : World) :
    Calls Tryd.prog 44 #[.int .u64 (a : Int), .int .u64 (b : Int)] w fun e w' => e = .returned (.bool (ltW a b)) ∧ w' = w := by
  go_enter Tryd.func44, Tryd.ntmps44
  go_wp2_with (go_at_call 26; refine (floatOf_any _ _).mono ?_; rintro e w' ⟨rfl, rfl⟩)
  go_ret
  exact ⟨rfl, rfl⟩
set_option maxHeartbeats 400000 in
theorem equal_any (a b : Nat) (w : World) :
    Calls Tryd.prog 45 #[.int .u64 (a : Int), .int .u64 (b : Int)] w fun e w' => e = .returned (.bool (eqW a b)) ∧ w' = w := by
  go_enter Tryd.func45, Tryd.ntmps45
  go_wp2_with (go_at_call 26; refine (floatOf_any _ _).mono ?_; rintro e w' ⟨rfl, rfl⟩)
  go_ret
  exact ⟨rfl, rfl⟩

def rankW (a : Nat) : Nat := if Gn.canonW a < 9223372036854775808 then Gn.canonW a + 9223372036854775808 else 18446744073709551615 - Gn.canonW a
theorem top_and (c : Nat) (h : c < 18446744073709551616) : bits .and .u64 (c : Int) 9223372036854775808 = if c < 9223372036854775808 then 0 else 9223372036854775808 := by
  rw [show (9223372036854775808 : Int) = ((9223372036854775808 : Nat) : Int) from rfl, u64_and_nat _ _ h (by omega)]
  by_cases h1 : c < 9223372036854775808
  · have e : c &&& 9223372036854775808 = 0 := by
      apply Nat.eq_of_testBit_eq; intro i
      rw [Nat.testBit_and, show (9223372036854775808 : Nat) = 2 ^ 63 from rfl, Nat.testBit_two_pow, Nat.zero_testBit]
      by_cases hi : 63 = i
      · subst hi; rw [Nat.testBit_lt_two_pow h1]; rfl
      · simp [hi]
    rw [e, if_pos h1]; rfl
  · obtain ⟨r, rfl, hr⟩ : ∃ r, c = 9223372036854775808 + r ∧ r < 9223372036854775808 := ⟨c - 9223372036854775808, by omega, by omega⟩
    have := Nat.two_pow_add_eq_or_of_lt (i := 63) hr 1
    rw [Nat.mul_one] at this
    have e0 : 9223372036854775808 + r = 2 ^ 63 ||| r := this
    have e : (9223372036854775808 + r) &&& 9223372036854775808 = 9223372036854775808 := by
      rw [e0]
      apply Nat.eq_of_testBit_eq; intro i
      rw [Nat.testBit_and, Nat.testBit_or, show (9223372036854775808 : Nat) = 2 ^ 63 from rfl, Nat.testBit_two_pow]
      by_cases hi : 63 = i
      · subst hi; simp
      · simp [hi]
    rw [e, if_neg h1]
theorem top_or (c : Nat) (h : c < 9223372036854775808) : bits .or .u64 (c : Int) 9223372036854775808 = ((c + 9223372036854775808 : Nat) : Int) := by
  rw [show (9223372036854775808 : Int) = ((9223372036854775808 : Nat) : Int) from rfl, u64_or_nat _ _ (by omega) (by omega)]
  congr 1
  have := Nat.two_pow_add_eq_or_of_lt (i := 63) h 1
  rw [Nat.mul_one] at this
  rw [Nat.or_comm, show (9223372036854775808 : Nat) = 2 ^ 63 from rfl, ← this, Nat.add_comm]

theorem not_u64 (c : Nat) (h : c < 18446744073709551616) : bits .xor .u64 IntKind.u64.max (c : Int) = ((18446744073709551615 - c : Nat) : Int) := by
  show IntKind.u64.wrap ((BitVec.ofInt 64 18446744073709551615 ^^^ BitVec.ofInt 64 (c : Int)).toNat : Int) = _
  have h1 : BitVec.ofInt 64 18446744073709551615 = BitVec.allOnes 64 := by decide
  rw [h1, BitVec.allOnes_xor, BitVec.toNat_not, ofInt_u64 c h, IntKind.wrap_u64]
  omega

set_option maxHeartbeats 400000 in
theorem rank_any (a : Nat) (h : a < 18446744073709551616) (w : World) :
    Calls Tryd.prog 31 #[.int .u64 (a : Int)] w fun e w' => e = .returned (.int .u64 (rankW a : Int)) ∧ w' = w := by
  have hl := Gn.canon_lt a h
  have ha := top_and (Gn.canonW a) hl
  unfold rankW
  by_cases hc : Gn.canonW a < 9223372036854775808
  · rw [if_pos hc] at *
    have ho := top_or (Gn.canonW a) hc
    generalize Gn.canonW a + 9223372036854775808 = r at *
    go_enter Tryd.func31, Tryd.ntmps31
    go_wp2_with (go_at_call 8; refine (canon_any a h _).mono ?_; rintro e w' ⟨rfl, rfl⟩)
    go_ret
    exact ⟨rfl, rfl⟩
  · rw [if_neg hc] at *
    have ho := not_u64 (Gn.canonW a) hl
    have hsg : IntKind.u64.signed = false := rfl
    generalize 18446744073709551615 - Gn.canonW a = r at *
    go_enter Tryd.func31, Tryd.ntmps31
    go_wp2_with (go_at_call 8; refine (canon_any a h _).mono ?_; rintro e w' ⟨rfl, rfl⟩)
    go_ret
    exact ⟨rfl, rfl⟩
end Go.Proofs.YteokcgclmgleiaaDoor
