import Derived.Test.YtkfnedhllfdghaaGreatDoorMgAF
import Derived.Lib.Strings

section
namespace Go.Proofs.YtkfnedhllfdghaaGreatDoor
set_option maxRecDepth 20000
open Go.RowKit

theorem ex_1 : (((⟨#[49]⟩ : ByteArray).extract 0 1).toList == [45]) = false := by rw [Lib.extract_toList]; decide
theorem ex_1024 : (((⟨#[49, 48, 50, 52]⟩ : ByteArray).extract 0 1).toList == [45]) = false := by rw [Lib.extract_toList]; decide
theorem mathAbs_any (a : Nat) (h : a < 18446744073709551616) (w : World) : Calls Tryz.prog 307 #[.float .f64 a] w fun e w' => e = .returned (.float .f64 (lowW a)) ∧ w' = w := by
  have hr := frombits_run (lowW a)
  have ht := tobits_run a
  have hf : bits .andNot .u64 (a : Int) 9223372036854775808 = (lowW a : Int) := abs_andNot a h
  go_enter Tryz.func307, Tryz.ntmps307
  go_wp2
  go_ret
  exact ⟨rfl, rfl⟩
theorem mathIsNaN_any (a : Nat) (w : World) : Calls Tryz.prog 297 #[.float .f64 a] w fun e w' => e = .returned (.bool (FloatKind.f64.format.order a a != some .eq)) ∧ w' = w := by
  go_enter Tryz.func297, Tryz.ntmps297
  go_wp2
  go_ret
  exact ⟨rfl, rfl⟩
theorem mathIsInf_any (a : Nat) (h : a < 18446744073709551616) (w : World) : Calls Tryz.prog 298 #[.float .f64 a, .int .i64 0] w fun e w' => e = .returned (.bool (FloatKind.f64.format.order (lowW a) 9218868437227405311 == some .gt)) ∧ w' = w := by
  go_enter Tryz.func298, Tryz.ntmps298
  go_wp2_with (go_at_call 307; refine (mathAbs_any _ h _).mono ?_; rintro e w' ⟨rfl, rfl⟩)
  go_ret
  exact ⟨rfl, rfl⟩
theorem frombits_runI (n : Int) (w : World) : (callFunc 286 #[.int .u64 n]).run Tryz.prog w = .ok (.value (.float .f64 n.toNat)) w := by
  rw [run_callFunc_extern (e := Extern.MathFloatBits.float64frombits) Tryz.func286 (by kernel_rfl) (by kernel_rfl) (by kernel_rfl) (by kernel_rfl)]
  rfl
theorem exp_and (a : Nat) (h : a < 9223372036854775808) : bits .and .i64 ((a : Int) / 4503599627370496) 2047 = (fx a : Int) := by
  have e : ((a : Int) / 4503599627370496) = ((a / 4503599627370496 : Nat) : Int) := by omega
  have hlt : a / 4503599627370496 < 2048 := by omega
  show IntKind.i64.wrap ((BitVec.ofInt 64 ((a : Int) / 4503599627370496) &&& BitVec.ofInt 64 2047).toNat : Int) = _
  rw [e, BitVec.toNat_and, ofInt_u64 _ (by omega), show (BitVec.ofInt 64 2047).toNat = 2047 from rfl]
  have e2 : a / 4503599627370496 &&& 2047 = a / 4503599627370496 % 2048 := Nat.and_two_pow_sub_one_eq_mod _ 11
  rw [e2]
  unfold fx
  generalize a / 4503599627370496 = q at *
  have : (q % 2048 : Nat) < 2048 := Nat.mod_lt _ (by decide)
  generalize q % 2048 = z at *
  simp [IntKind.wrap, IntKind.bits, IntKind.signed]
  omega
theorem low_andNot (a : Nat) (h : a < 9223372036854775808) : bits .andNot .u64 (a : Int) 9218868437227405312 = (fm a : Int) := by
  rw [show (9218868437227405312 : Int) = ((9218868437227405312 : Nat) : Int) from rfl, u64_andNot_nat _ _ (by omega) (by omega)]
  congr 1
  unfold fm
  show a &&& 9227875636482146303 = _
  have e : (9227875636482146303 : Nat) = 2 ^ 63 ||| (2 ^ 52 - 1) := by decide
  rw [e, Nat.and_or_distrib_left, Nat.and_two_pow_sub_one_eq_mod]
  have z : a &&& 2 ^ 63 = 0 := by
    apply Nat.eq_of_testBit_eq; intro i
    rw [Nat.testBit_and, Nat.testBit_two_pow, Nat.zero_testBit]
    by_cases hi : 63 = i
    · subst hi; rw [Nat.testBit_lt_two_pow h]; rfl
    · simp [hi]
  rw [z, Nat.zero_or]
theorem or_join (m : Nat) (z : Int) (y : Nat) (hm : m < 4503599627370496) (h0 : 0 ≤ z) (h1 : z < 4096) (hy : (y : Int) = m + z * 4503599627370496) : bits .or .u64 (m : Int) (z * 4503599627370496) = (y : Int) := by
  obtain ⟨n, rfl⟩ := Int.eq_ofNat_of_zero_le h0
  have e : ((n : Int) * 4503599627370496) = ((n * 4503599627370496 : Nat) : Int) := by simp
  rw [e, u64_or_nat _ _ (by omega) (by omega), hy]
  have := nat_join 52 (n * 4503599627370496) m (by simp) hm
  rw [Nat.or_comm, this]
  simp; omega
end Go.Proofs.YtkfnedhllfdghaaGreatDoor
end
