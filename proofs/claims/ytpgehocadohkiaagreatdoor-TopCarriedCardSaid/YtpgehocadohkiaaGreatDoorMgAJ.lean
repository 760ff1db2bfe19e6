import Derived.Test.YtpgehocadohkiaaGreatDoorMgAI
import Derived.Lib.Strings

section
namespace Go.Proofs.YtpgehocadohkiaaGreatDoor
open Go.RowKit

theorem ex_1 : (((⟨#[49]⟩ : ByteArray).extract 0 1).toList == [45]) = false := by rw [Lib.extract_toList]; decide
theorem ex_1024 : (((⟨#[49, 48, 50, 52]⟩ : ByteArray).extract 0 1).toList == [45]) = false := by rw [Lib.extract_toList]; decide
set_option maxHeartbeats 400000 in
theorem isWhole_1 (w : World) : Calls Tryz.prog 210 #[.string ⟨#[49]⟩] w fun e w' => e = .returned (.bool true) ∧ w' = w := by
  go_enter Tryz.func210, Tryz.ntmps210
  go_wp2
  refine wp_loop_rounds 2 ?_
  rw [rounds_succ]
  go_wp2
  rw [rounds_succ]
  go_wp2
  go_ret
  exact ⟨rfl, rfl⟩
set_option maxHeartbeats 400000 in
theorem isWhole_2 (w : World) : Calls Tryz.prog 210 #[.string ⟨#[50]⟩] w fun e w' => e = .returned (.bool true) ∧ w' = w := by
  go_enter Tryz.func210, Tryz.ntmps210
  go_wp2
  refine wp_loop_rounds 2 ?_
  rw [rounds_succ]
  go_wp2
  rw [rounds_succ]
  go_wp2
  go_ret
  exact ⟨rfl, rfl⟩
set_option maxHeartbeats 400000 in
theorem isOdd_5 (w : World) : Calls Tryz.prog 194 #[.string ⟨#[53]⟩] w fun e w' => e = .returned (.bool true) ∧ w' = w := by
  go_enter Tryz.func194, Tryz.ntmps194
  go_wp2_with (go_at_call 210; refine (isWhole_5 _).mono ?_; rintro e w' ⟨rfl, rfl⟩)
  go_ret
  exact ⟨rfl, rfl⟩
set_option maxHeartbeats 400000 in
theorem isOdd_1 (w : World) : Calls Tryz.prog 194 #[.string ⟨#[49]⟩] w fun e w' => e = .returned (.bool true) ∧ w' = w := by
  go_enter Tryz.func194, Tryz.ntmps194
  go_wp2_with (go_at_call 210; refine (isWhole_1 _).mono ?_; rintro e w' ⟨rfl, rfl⟩)
  go_ret
  exact ⟨rfl, rfl⟩
set_option maxHeartbeats 400000 in
theorem isOdd_2 (w : World) : Calls Tryz.prog 194 #[.string ⟨#[50]⟩] w fun e w' => e = .returned (.bool false) ∧ w' = w := by
  go_enter Tryz.func194, Tryz.ntmps194
  go_wp2_with (go_at_call 210; refine (isWhole_2 _).mono ?_; rintro e w' ⟨rfl, rfl⟩)
  go_ret
  exact ⟨rfl, rfl⟩
set_option maxHeartbeats 400000 in
theorem isPower_1 (w : World) : Calls Tryz.prog 195 #[.string ⟨#[49]⟩] w fun e w' => e = .returned (.bool true) ∧ w' = w := by
  go_enter Tryz.func195, Tryz.ntmps195
  go_wp2_with (first | (go_at_call 75; refine (cutPrefix_no ⟨#[49]⟩ (by decide) ex_1 _).mono ?_; rintro e w' ⟨rfl, rfl⟩) | (go_at_call 210; refine (isWhole_1 _).mono ?_; rintro e w' ⟨rfl, rfl⟩))
  go_ret
  exact ⟨rfl, rfl⟩
set_option maxHeartbeats 400000 in
theorem isPower_1024 (w : World) : Calls Tryz.prog 195 #[.string ⟨#[49, 48, 50, 52]⟩] w fun e w' => e = .returned (.bool true) ∧ w' = w := by
  go_enter Tryz.func195, Tryz.ntmps195
  go_wp2_with (first | (go_at_call 75; refine (cutPrefix_no ⟨#[49, 48, 50, 52]⟩ (by decide) ex_1024 _).mono ?_; rintro e w' ⟨rfl, rfl⟩) | (go_at_call 210; refine (isWhole_1024 _).mono ?_; rintro e w' ⟨rfl, rfl⟩))
  go_ret
  exact ⟨rfl, rfl⟩


theorem mathAbs_any (a : Nat) (h : a < 18446744073709551616) (w : World) : Calls Tryz.prog 223 #[.float .f64 a] w fun e w' => e = .returned (.float .f64 (lowW a)) ∧ w' = w := by
  have hr := frombits_run (lowW a)
  have ht := tobits_run a
  have hf : bits .andNot .u64 (a : Int) 9223372036854775808 = (lowW a : Int) := abs_andNot a h
  go_enter Tryz.func223, Tryz.ntmps223
  go_wp2
  go_ret
  exact ⟨rfl, rfl⟩
theorem mathIsNaN_any (a : Nat) (w : World) : Calls Tryz.prog 215 #[.float .f64 a] w fun e w' => e = .returned (.bool (FloatKind.f64.format.order a a != some .eq)) ∧ w' = w := by
  go_enter Tryz.func215, Tryz.ntmps215
  go_wp2
  go_ret
  exact ⟨rfl, rfl⟩
theorem mathIsInf_any (a : Nat) (h : a < 18446744073709551616) (w : World) : Calls Tryz.prog 216 #[.float .f64 a, .int .i64 0] w fun e w' => e = .returned (.bool (FloatKind.f64.format.order (lowW a) 9218868437227405311 == some .gt)) ∧ w' = w := by
  go_enter Tryz.func216, Tryz.ntmps216
  go_wp2_with (go_at_call 223; refine (mathAbs_any _ h _).mono ?_; rintro e w' ⟨rfl, rfl⟩)
  go_ret
  exact ⟨rfl, rfl⟩
theorem normalize_any (a : Nat) (h : a < 18446744073709551616) (hn : (FloatKind.f64.format.order (lowW a) 4503599627370496 == some .lt) = false) (w : World) : Calls Tryz.prog 220 #[.float .f64 a] w fun e w' => e = .returned (.tuple #[.float .f64 a, .int .i64 0]) ∧ w' = w := by
  go_enter Tryz.func220, Tryz.ntmps220
  go_wp2_with (go_at_call 223; refine (mathAbs_any _ h _).mono ?_; rintro e w' ⟨rfl, rfl⟩)
  go_ret2
  exact ⟨rfl, rfl⟩

theorem frombits_runI (n : Int) (w : World) : (callFunc 201 #[.int .u64 n]).run Tryz.prog w = .ok (.value (.float .f64 n.toNat)) w := by
  rw [run_callFunc_extern (e := Extern.MathFloatBits.float64frombits) Tryz.func201 (by kernel_rfl) (by kernel_rfl) (by kernel_rfl) (by kernel_rfl)]
  rfl
theorem exp_and (a : Nat) (h : a < 9223372036854775808) : bits .and .i64 ((a : Int) / 4503599627370496) 2047 = (fx a : Int) := by
  have e : ((a : Int) / 4503599627370496) = ((a / 4503599627370496 : Nat) : Int) := by omega
  have hlt : a / 4503599627370496 < 2048 := by omega
  show IntKind.i64.wrap ((BitVec.ofInt 64 ((a : Int) / 4503599627370496) &&& BitVec.ofInt 64 2047).toNat : Int) = _
  rw [e, BitVec.toNat_and, ofInt_u64 _ (by omega), show (BitVec.ofInt 64 2047).toNat = 2047 from rfl]
  have e2 : a / 4503599627370496 &&& 2047 = a / 4503599627370496 % 2048 := Nat.and_two_pow_sub_one_eq_mod _ 11
  rw [e2]
  unfold fx
  generalize a / 4503599627370496 = q at *
  have : (q % 2048 : Nat) < 2048 := Nat.mod_lt _ (by decide)
  generalize q % 2048 = z at *
  simp [IntKind.wrap, IntKind.bits, IntKind.signed]
  omega
theorem low_andNot (a : Nat) (h : a < 9223372036854775808) : bits .andNot .u64 (a : Int) 9218868437227405312 = (fm a : Int) := by
  rw [show (9218868437227405312 : Int) = ((9218868437227405312 : Nat) : Int) from rfl, u64_andNot_nat _ _ (by omega) (by omega)]
  congr 1
  unfold fm
  show a &&& 9227875636482146303 = _
  have e : (9227875636482146303 : Nat) = 2 ^ 63 ||| (2 ^ 52 - 1) := by decide
  rw [e, Nat.and_or_distrib_left, Nat.and_two_pow_sub_one_eq_mod]
  have z : a &&& 2 ^ 63 = 0 := by
    apply Nat.eq_of_testBit_eq; intro i
    rw [Nat.testBit_and, Nat.testBit_two_pow, Nat.zero_testBit]
    by_cases hi : 63 = i
    · subst hi; rw [Nat.testBit_lt_two_pow h]; rfl
    · simp [hi]
  rw [z, Nat.zero_or]
theorem or_join (m : Nat) (z : Int) (y : Nat) (hm : m < 4503599627370496) (h0 : 0 ≤ z) (h1 : z < 4096) (hy : (y : Int) = m + z * 4503599627370496) : bits .or .u64 (m : Int) (z * 4503599627370496) = (y : Int) := by
  obtain ⟨n, rfl⟩ := Int.eq_ofNat_of_zero_le h0
  have e : ((n : Int) * 4503599627370496) = ((n * 4503599627370496 : Nat) : Int) := by simp
  rw [e, u64_or_nat _ _ (by omega) (by omega), hy]
  have := nat_join 52 (n * 4503599627370496) m (by simp) hm
  rw [Nat.or_comm, this]
  simp; omega
set_option maxHeartbeats 400000 in
theorem ldexpIn_mid (a : Nat) (h : a < 9223372036854775808) (k : Int) (hk1 : -2000 ≤ k) (hk2 : k ≤ 2000) (w : World)
    (t1 : (FloatKind.f64.format.order a 0 == some .eq) = false)
    (t2 : (FloatKind.f64.format.order (lowW a) 9218868437227405311 == some .gt) = false)
    (t3 : (FloatKind.f64.format.order a a != some .eq) = false)
    (t4 : (FloatKind.f64.format.order (lowW a) 4503599627370496 == some .lt) = false)
    (b1 : -1022 ≤ k + (fx a - 1023)) (b2 : k + (fx a - 1023) ≤ 1023) (y r : Nat) (hy : (y : Int) = fm a + (k + (fx a - 1023) + 1023) * 4503599627370496) (hq : floatBits .mul .f64 4607182418800017408 y = some r) :
    Calls Tryz.prog 213 #[.float .f64 a, .int .i64 k] w fun e w' => e = .returned (.float .f64 r) ∧ w' = w := by
  have ho := or_join (fm a) (k + (fx a - 1023) + 1023) y (Nat.mod_lt _ (by decide)) (by omega) (by omega) hy
  have hmul := fun (w : World) (t : TypeId) => run_float_arith (P := Tryz.prog) w .mul t .f64 4607182418800017408 y r hq
  clear hy
  have ht := tobits_run a
  have hr := frombits_runI
  have h' : a < 18446744073709551616 := by omega
  have he := exp_and a h
  have hm := low_andNot a h
  have hfx : fx a < 2048 := Nat.mod_lt _ (by decide)
  have b3 : -1075 ≤ k + (fx a - 1023) := by omega
  go_enter Tryz.func213, Tryz.ntmps213
  go_wp2_with (first | (go_at_call 216; refine (mathIsInf_any _ (by assumption) _).mono ?_; rintro e w' ⟨rfl, rfl⟩) | (go_at_call 215; refine (mathIsNaN_any _ _).mono ?_; rintro e w' ⟨rfl, rfl⟩) | (go_at_call 220; refine (normalize_any _ (by assumption) (by assumption) _).mono ?_; rintro e w' ⟨rfl, rfl⟩))
  go_ret
  exact ⟨rfl, rfl⟩
set_option maxHeartbeats 400000 in
theorem ldexpIn_low (a : Nat) (h : a < 9223372036854775808) (k : Int) (hk1 : -2000 ≤ k) (hk2 : k ≤ 2000) (w : World)
    (t1 : (FloatKind.f64.format.order a 0 == some .eq) = false)
    (t2 : (FloatKind.f64.format.order (lowW a) 9218868437227405311 == some .gt) = false)
    (t3 : (FloatKind.f64.format.order a a != some .eq) = false)
    (t4 : (FloatKind.f64.format.order (lowW a) 4503599627370496 == some .lt) = false)
    (b1 : -1075 ≤ k + (fx a - 1023)) (b2 : k + (fx a - 1023) < -1022) (y r : Nat) (hy : (y : Int) = fm a + (k + (fx a - 1023) + 53 + 1023) * 4503599627370496) (hq : floatBits .mul .f64 4368491638549381120 y = some r) :
    Calls Tryz.prog 213 #[.float .f64 a, .int .i64 k] w fun e w' => e = .returned (.float .f64 r) ∧ w' = w := by
  have ho := or_join (fm a) (k + (fx a - 1023) + 53 + 1023) y (Nat.mod_lt _ (by decide)) (by omega) (by omega) hy
  have hmul := fun (w : World) (t : TypeId) => run_float_arith (P := Tryz.prog) w .mul t .f64 4368491638549381120 y r hq
  clear hy
  have ht := tobits_run a
  have hr := frombits_runI
  have h' : a < 18446744073709551616 := by omega
  have he := exp_and a h
  have hm := low_andNot a h
  have hfx : fx a < 2048 := Nat.mod_lt _ (by decide)
  go_enter Tryz.func213, Tryz.ntmps213
  go_wp2_with (first | (go_at_call 216; refine (mathIsInf_any _ (by assumption) _).mono ?_; rintro e w' ⟨rfl, rfl⟩) | (go_at_call 215; refine (mathIsNaN_any _ _).mono ?_; rintro e w' ⟨rfl, rfl⟩) | (go_at_call 220; refine (normalize_any _ (by assumption) (by assumption) _).mono ?_; rintro e w' ⟨rfl, rfl⟩))
  go_ret
  exact ⟨rfl, rfl⟩
theorem ldexp_of {a : Nat} {k : Int} {r : Nat} (hin : ∀ w, Calls Tryz.prog 213 #[.float .f64 a, .int .i64 k] w fun e w' => e = .returned (.float .f64 r) ∧ w' = w) (w : World) :
    Calls Tryz.prog 197 #[.float .f64 a, .int .i64 k] w fun e w' => e = .returned (.float .f64 r) ∧ w' = w := by
  go_enter Tryz.func197, Tryz.ntmps197
  go_wp2_with (go_at_call 213; refine (hin _).mono ?_; rintro e w' ⟨rfl, rfl⟩)
  go_ret
  exact ⟨rfl, rfl⟩
theorem ldexp_5 (w : World) : Calls Tryz.prog 197 #[.float .f64 4617315517961601024, .int .i64 1] w fun e w' => e = .returned (.float .f64 4621819117588971520) ∧ w' = w :=
  ldexp_of (fun w => ldexpIn_mid _ (by decide) 1 (by decide) (by decide) w (by decide) (by decide) (by decide) (by decide) (by decide) (by decide) 4621819117588971520 _ (by decide) (by decide)) w
end Go.Proofs.YtpgehocadohkiaaGreatDoor
end
