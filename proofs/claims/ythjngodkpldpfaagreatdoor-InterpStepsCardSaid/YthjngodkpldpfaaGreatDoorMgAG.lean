import Derived.Test.YthjngodkpldpfaaGreatDoorMgAF
import Derived.Test.YthjngodkpldpfaaGreatDoorMgAA
import Derived.Test.YthjngodkpldpfaaGreatDoorMgAB
import Derived.Deep.RegionWith
import Derived.Test.YthjngodkpldpfaaGreatDoorMgAC

section
namespace Go.Proofs.YthjngodkpldpfaaGreatDoor
open Go.RowKit

theorem below_drewN' {B : Nat} {a w : World} (h : Below B a w) (n : Nat) : Below B a (w.drewN n) := h.trans ⟨rfl, rfl, rfl, Nat.le_refl _, fun _ _ => rfl⟩

theorem bt {a b c : World} (h : Below a.heap.size a b) (k : Below b.heap.size b c) : Below a.heap.size a c := h.trans (k.mono h.size)
theorem bd (w : World) (n : Nat) : Below w.heap.size w (w.drewN n) := below_drewN' (Below.refl _ _) n

theorem ex_5p1 : (((⟨#[53, 112, 49]⟩ : ByteArray).extract 0 1).toList == [45]) = false := by rw [Lib.extract_toList]; decide
theorem ex_2p0 : (((⟨#[50, 112, 48]⟩ : ByteArray).extract 0 1).toList == [45]) = false := by rw [Lib.extract_toList]; decide
theorem ex_1p1024 : (((⟨#[49, 112, 49, 48, 50, 52]⟩ : ByteArray).extract 0 1).toList == [45]) = false := by rw [Lib.extract_toList]; decide
end Go.Proofs.YthjngodkpldpfaaGreatDoor
end

section
namespace Go.Proofs.YthjngodkpldpfaaGreatDoor
open Go.RowKit

set_option maxHeartbeats 400000 in
theorem tz_any (x j z : Nat) (w : World) (hx : ((x : Int) == 0) = false)
    (hj : IntKind.u64.wrap (bits .and .u64 (x : Int) (IntKind.u64.wrap (-(x : Int))) * 285870213051353865) / 288230376151711744 = (j : Int)) (hl : j < 64)
    (hz : z < 256) (hc : w.cell? ⟨2, j, none⟩ = some (.int .u8 (z : Int))) :
    Calls Tryz.prog 147 #[.int .u64 (x : Int)] w fun e w' => e = .returned (.int .i64 (z : Int)) ∧ w' = w := by
  go_enter Tryz.func147, Tryz.ntmps147
  go_wp2
  go_ret
  exact ⟨rfl, rfl⟩
/-- what the one text's walk reads of the table of math/bits: the place of 2^50 -/
def tabPlace : Nat := (IntKind.u64.wrap (bits .and .u64 5629499534213120 (IntKind.u64.wrap (-5629499534213120)) * 285870213051353865) / 288230376151711744).toNat
def TabC (w : World) : Prop := w.cell? ⟨2, tabPlace, none⟩ = some (.int .u8 50)
theorem tz_5 (w : World) (h : TabC w) : Calls Tryz.prog 147 #[.int .u64 5629499534213120] w fun e w' => e = .returned (.int .i64 50) ∧ w' = w :=
  tz_any 5629499534213120 tabPlace 50 w (by decide) (by decide) (by decide) (by decide) h

set_option maxHeartbeats 400000 in
theorem oddAndPower_5 (w : World) (h : TabC w) : Calls Tryz.prog 140 #[.int .u64 4621819117588971520] w fun e w' => e = .returned (.tuple #[.int .u64 5, .int .i64 1]) ∧ w' = w := by
  have e1 : (fx 4621819117588971520 : Int) = 1026 := by decide
  have e2 : (fm 4621819117588971520 : Int) = 1125899906842624 := by decide
  have e3 : bits .or .u64 1125899906842624 4503599627370496 = 5629499534213120 := by decide
  go_enter Tryz.func140, Tryz.ntmps140
  go_wp2_with (first
    | (go_at_call 133; refine (fields_any 4621819117588971520 (by decide) _).mono ?_; rintro e w' ⟨rfl, rfl⟩)
    | (go_at_call 147; refine (tz_5 _ h).mono ?_; rintro e w' ⟨rfl, rfl⟩))
  go_ret2
  exact ⟨rfl, rfl⟩

theorem dd5 : (⟨(Lib.decDigits 5).toArray⟩ : ByteArray) = ⟨#[53]⟩ := by rw [Lib.decDigits_one (by decide)]; rfl
theorem dd1 : (⟨(Lib.decDigits 1).toArray⟩ : ByteArray) = ⟨#[49]⟩ := by rw [Lib.decDigits_one (by decide)]; rfl
theorem small_5 (w : World) : Calls Tryz.prog 152 #[.int .i64 5] w fun e w' => e = .returned (.string ⟨#[53]⟩) ∧ w' = w := by
  have := Tryz.internal_strconv_small 5 (by decide) w
  rw [dd5] at this
  exact this
theorem itoa_1 (w : World) : Calls Tryz.prog 142 #[.int .i64 1] w fun e w' => e = .returned (.string ⟨#[49]⟩) ∧ w' = w := by
  have := Tryz.strconv_Itoa_small 1 (by decide) w
  rw [dd1] at this
  exact this
set_option maxHeartbeats 400000 in
theorem formatUint_5 (w : World) : Calls Tryz.prog 141 #[.int .u64 5, .int .i64 10] w fun e w' => e = .returned (.string ⟨#[53]⟩) ∧ w' = w := by
  go_enter Tryz.func141, Tryz.ntmps141
  go_wp2_with (first
    | (go_at_call 152; refine (small_5 _).mono ?_; rintro e w' ⟨rfl, rfl⟩)
    | go_in)
  go_ret
  exact ⟨rfl, rfl⟩
set_option maxHeartbeats 400000 in
theorem amountText_5 (w : World) (h : TabC w) : Calls Tryz.prog 134 #[.int .u64 4621819117588971520] w fun e w' => e = .returned (.string ⟨#[53, 112, 49]⟩) ∧ w' = w := by
  have e1 : (clsN 4621819117588971520 : Int) = 4 := by decide
  go_enter Tryz.func134, Tryz.ntmps134
  go_wp2_with (first
    | (go_at_call 111; refine (class_any 4621819117588971520 (by decide) _).mono ?_; rintro e w' ⟨rfl, rfl⟩)
    | (go_at_call 140; refine (oddAndPower_5 _ h).mono ?_; rintro e w' ⟨rfl, rfl⟩)
    | (go_at_call 141; refine (formatUint_5 _).mono ?_; rintro e w' ⟨rfl, rfl⟩)
    | (go_at_call 142; refine (itoa_1 _).mono ?_; rintro e w' ⟨rfl, rfl⟩))
  go_ret
  exact ⟨rfl, rfl⟩
set_option maxHeartbeats 400000 in
theorem text_5 (w : World) (h : TabC w) : Calls Tryz.prog 117 #[.int .u64 4621819117588971520] w fun e w' => e = .returned (.string ⟨#[53, 112, 49]⟩) ∧ w' = w := by
  have e1 : (Gn.canonW 4621819117588971520 : Int) = 4621819117588971520 := by decide
  have e2 : bits .and .u64 4621819117588971520 9223372036854775808 = 0 := by decide
  go_enter Tryz.func117, Tryz.ntmps117
  go_wp2_with (first
    | (go_at_call 95; refine (canon_any 4621819117588971520 (by decide) _).mono ?_; rintro e w' ⟨rfl, rfl⟩)
    | (go_at_call 134; refine (amountText_5 _ h).mono ?_; rintro e w' ⟨rfl, rfl⟩))
  go_ret
  exact ⟨rfl, rfl⟩
end Go.Proofs.YthjngodkpldpfaaGreatDoor
end

section
namespace Go.Proofs.YthjngodkpldpfaaGreatDoor
open Go.RowKit

theorem add_11 (w : World) : Calls Tryz.prog 70 #[.int .u64 4607182418800017408, .int .u64 4607182418800017408] w fun e w' => e = .returned (.int .u64 4611686018427387904) ∧ ∃ n, w' = w.drewN n := by
  have e : Gn.addW 4607182418800017408 4607182418800017408 = 4611686018427387904 := by decide
  have := add_any 4607182418800017408 4607182418800017408 w
  rw [e] at this; exact this
theorem int_10 (w : World) : Calls Tryz.prog 112 #[.int .u64 4621819117588971520] w fun e w' => e = .returned (.tuple #[.int .i64 10, .int .i64 0]) ∧ w' = w := by
  have e : intR 4621819117588971520 = .tuple #[.int .i64 10, .int .i64 0] := by
    unfold intR
    rw [show Gn.intOk 4621819117588971520 = true from by decide, show Gn.intV 4621819117588971520 = 10 from by decide]; rfl
  have := int_any 4621819117588971520 (by decide) w
  rw [e] at this; exact this
theorem int_inf (w : World) : Calls Tryz.prog 112 #[.int .u64 9218868437227405312] w fun e w' => e = .returned (.tuple #[.int .i64 0, .int .i64 11]) ∧ w' = w := by
  have e : intR 9218868437227405312 = .tuple #[.int .i64 0, .int .i64 11] := int_no (by decide)
  have := int_any 9218868437227405312 (by decide) w
  rw [e] at this; exact this
theorem canon_x (w : World) : Calls Tryz.prog 95 #[.int .u64 9221120237041090566] w fun e w' => e = .returned (.int .u64 9221120237041090561) ∧ w' = w := by
  have e : Gn.canonW 9221120237041090566 = 9221120237041090561 := by decide
  have := canon_any 9221120237041090566 (by decide) w
  rw [e] at this; exact this

theorem tab_below {a b : World} (h : TabC a) (hg : 2 < a.heap.size) (k : Below a.heap.size a b) : TabC b := by
  unfold TabC at *
  rw [k.cell (p := ⟨2, tabPlace, none⟩) hg]; exact h
theorem tab_size {a : World} (h : TabC a) : 2 < a.heap.size := by
  unfold TabC World.cell? at h
  rcases Nat.lt_or_ge 2 a.heap.size with h1 | h1
  · exact h1
  · have e : a.heap[2]? = none := Array.getElem?_eq_none h1
    simp only [e] at h
    cases h
theorem tab_drew {a : World} (h : TabC a) (n : Nat) : TabC (a.drewN n) := h

theorem class_one (w : World) : Calls Tryz.prog 111 #[.int .u64 4607182418800017408] w fun e w' => e = .returned (.int .i64 4) ∧ w' = w := by
  have e : clsN 4607182418800017408 = 4 := by decide
  have := class_any 4607182418800017408 (by decide) w
  rw [e] at this; exact this
theorem sub_11 (w : World) : Calls Tryz.prog 71 #[.int .u64 4607182418800017408, .int .u64 4607182418800017408] w fun e w' => e = .returned (.int .u64 0) ∧ ∃ n, w' = w.drewN n := by
  have e : Gn.subW 4607182418800017408 4607182418800017408 = 0 := by decide
  have := sub_any 4607182418800017408 4607182418800017408 (by decide) w
  rw [e] at this; exact this
theorem mul_1i (w : World) : Calls Tryz.prog 72 #[.int .u64 4607182418800017408, .int .u64 9218868437227405312] w fun e w' => e = .returned (.int .u64 9218868437227405312) ∧ ∃ n, w' = w.drewN n := by
  have e : Gn.mulW 4607182418800017408 9218868437227405312 = 9218868437227405312 := by decide
  have := mul_any 4607182418800017408 9218868437227405312 w
  rw [e] at this; exact this
theorem div_10 (w : World) : Calls Tryz.prog 73 #[.int .u64 4607182418800017408, .int .u64 0] w fun e w' => e = .returned (.int .u64 9218868437227405312) ∧ ∃ n, w' = w.drewN n := by
  have e : Gn.divW 4607182418800017408 0 = 9218868437227405312 := by decide
  have := div_any 4607182418800017408 0 w
  rw [e] at this; exact this
theorem min_1i (w : World) : Calls Tryz.prog 74 #[.int .u64 4607182418800017408, .int .u64 9218868437227405312] w fun e w' => e = .returned (.int .u64 4607182418800017408) ∧ w' = w := by
  have e : minW 4607182418800017408 9218868437227405312 = 4607182418800017408 := by decide
  have := min_any 4607182418800017408 9218868437227405312 (by decide) (by decide) w
  rw [e] at this; exact this
theorem max_1i (w : World) : Calls Tryz.prog 75 #[.int .u64 4607182418800017408, .int .u64 9218868437227405312] w fun e w' => e = .returned (.int .u64 9218868437227405312) ∧ w' = w := by
  have e : maxW 4607182418800017408 9218868437227405312 = 9218868437227405312 := by decide
  have := max_any 4607182418800017408 9218868437227405312 (by decide) (by decide) w
  rw [e] at this; exact this
theorem neg_0 (w : World) : Calls Tryz.prog 78 #[.int .u64 0] w fun e w' => e = .returned (.int .u64 9223372036854775808) ∧ w' = w := by
  have e : Gn.negW 0 = 9223372036854775808 := by decide
  have := neg_any 0 (by decide) w
  rw [e] at this; exact this
theorem abs_s (w : World) : Calls Tryz.prog 79 #[.int .u64 9223372036854775808] w fun e w' => e = .returned (.int .u64 0) ∧ w' = w := by
  have e : Gn.absW 9223372036854775808 = 0 := by decide
  have := abs_any 9223372036854775808 (by decide) w
  rw [e] at this; exact this
theorem floor_1 (w : World) : Calls Tryz.prog 80 #[.int .u64 4607182418800017408] w fun e w' => e = .returned (.int .u64 4607182418800017408) ∧ ∃ n, w' = w.drewN n := by
  have e : floorW 4607182418800017408 = 4607182418800017408 := by decide
  have := floor_any 4607182418800017408 (by decide) w
  rw [e] at this; exact this
theorem less_01 (w : World) : Calls Tryz.prog 108 #[.int .u64 0, .int .u64 4607182418800017408] w fun e w' => e = .returned (.bool true) ∧ w' = w := by
  have e : ltW 0 4607182418800017408 = true := by decide
  have := less_any 0 4607182418800017408 w
  rw [e] at this; exact this
theorem order_01 (w : World) : Calls Tryz.prog 107 #[.int .u64 0, .int .u64 4607182418800017408] w fun e w' => e = .returned (.int .i64 (-1)) ∧ w' = w := by
  have e : ordW 0 4607182418800017408 = (-1) := by decide
  have := order_any 0 4607182418800017408 (by decide) (by decide) w
  rw [e] at this; exact this
theorem of_1 (w : World) : Calls Tryz.prog 109 #[.int .i64 1] w fun e w' => e = .returned (.int .u64 4607182418800017408) ∧ w' = w := by
  have e : ofW 1 = 4607182418800017408 := by decide
  have := of_any 1 w
  rw [e] at this; exact this

end Go.Proofs.YthjngodkpldpfaaGreatDoor
end

section
namespace Go.Proofs.YthjngodkpldpfaaGreatDoor
open Go.RowKit

/-- a whole number of 128 bits as the struct of its two halves -/
abbrev wv (hi lo : Nat) : Value := .agg #[.int .u64 (hi : Int), .int .u64 (lo : Int)]
def wW (W : Nat) : Value := wv (W / 18446744073709551616) (W % 18446744073709551616)
theorem wW_of (hi lo : Nat) (h : lo < 18446744073709551616) : wW (hi * 18446744073709551616 + lo) = wv hi lo := by
  unfold wW
  rw [show (hi * 18446744073709551616 + lo) / 18446744073709551616 = hi from by omega, show (hi * 18446744073709551616 + lo) % 18446744073709551616 = lo from by omega]
theorem wrap_nat (x : Nat) (h : x < 18446744073709551616) : IntKind.u64.wrap (x : Int) = (x : Int) := by
  rw [IntKind.wrap_u64]; omega
theorem wrap_mod (x : Nat) : IntKind.u64.wrap (x : Int) = ((x % 18446744073709551616 : Nat) : Int) := by
  rw [IntKind.wrap_u64]; omega
theorem pow64 (n : Nat) (h : n ≤ 64) : 2 ^ n * 2 ^ (64 - n) = 18446744073709551616 := by
  rw [← Nat.pow_add, show n + (64 - n) = 64 from by omega]

set_option maxHeartbeats 400000 in
theorem left_big (hi lo n x : Nat) (h1 : (64 : Int) ≤ (n : Int)) (h2 : (n : Int) ≤ 127) (hx : IntKind.u64.wrap ((lo : Int) * 2 ^ (n - 64)) = (x : Int)) (w : World) :
    Calls Tryz.prog 96 #[wv hi lo, .int .i64 (n : Int)] w fun e w' => e = .returned (wv x 0) ∧ Below w.heap.size w w' := by
  go_enter Tryz.func96, Tryz.ntmps96
  go_wp2
  exact bodyPost_ret (v := wv x 0) (by simp [results, Tryz.results96, go_sem]) rfl ⟨rfl, ((Below.refl _ _).alloc (Nat.le_refl _) _).alloc (by simp) _⟩
set_option maxHeartbeats 400000 in
theorem left_zero (hi lo : Nat) (w : World) :
    Calls Tryz.prog 96 #[wv hi lo, .int .i64 0] w fun e w' => e = .returned (wv hi lo) ∧ Below w.heap.size w w' := by
  go_enter Tryz.func96, Tryz.ntmps96
  go_wp2
  exact bodyPost_ret (v := wv hi lo) (by simp [results, Tryz.results96, go_sem]) rfl ⟨rfl, ((Below.refl _ _).alloc (Nat.le_refl _) _).alloc (by simp) _⟩
set_option maxHeartbeats 400000 in
theorem left_mid (hi lo n x y : Nat) (h1 : (n : Int) < 64) (h2 : ((n : Int) == 0) = false) (hx : bits .or .u64 (IntKind.u64.wrap ((hi : Int) * 2 ^ n)) ((lo : Int) / 2 ^ (64 - n)) = (x : Int)) (hy : IntKind.u64.wrap ((lo : Int) * 2 ^ n) = (y : Int)) (w : World) :
    Calls Tryz.prog 96 #[wv hi lo, .int .i64 (n : Int)] w fun e w' => e = .returned (wv x y) ∧ Below w.heap.size w w' := by
  go_enter Tryz.func96, Tryz.ntmps96
  go_wp2
  go_region
  all_goals go_wp2
  exact bodyPost_ret (v := wv x y) (by simp [results, Tryz.results96, go_sem]) rfl ⟨rfl, (((Below.refl _ _).alloc (Nat.le_refl _) _).alloc (by simp) _).drew⟩
set_option maxHeartbeats 400000 in
theorem right_big (hi lo n x : Nat) (h1 : (64 : Int) ≤ (n : Int)) (h2 : (n : Int) ≤ 127) (hx : (hi : Int) / 2 ^ (n - 64) = (x : Int)) (w : World) :
    Calls Tryz.prog 125 #[wv hi lo, .int .i64 (n : Int)] w fun e w' => e = .returned (wv 0 x) ∧ Below w.heap.size w w' := by
  go_enter Tryz.func125, Tryz.ntmps125
  go_wp2
  exact bodyPost_ret (v := wv 0 x) (by simp [results, Tryz.results125, go_sem]) rfl ⟨rfl, ((Below.refl _ _).alloc (Nat.le_refl _) _).alloc (by simp) _⟩
set_option maxHeartbeats 400000 in
theorem right_mid (hi lo n x y : Nat) (h1 : (n : Int) < 64) (h2 : ((n : Int) == 0) = false) (hx : (hi : Int) / 2 ^ n = (x : Int)) (hy : bits .or .u64 ((lo : Int) / 2 ^ n) (IntKind.u64.wrap ((hi : Int) * 2 ^ (64 - n))) = (y : Int)) (w : World) :
    Calls Tryz.prog 125 #[wv hi lo, .int .i64 (n : Int)] w fun e w' => e = .returned (wv x y) ∧ Below w.heap.size w w' := by
  go_enter Tryz.func125, Tryz.ntmps125
  go_wp2
  go_region
  all_goals go_wp2
  exact bodyPost_ret (v := wv x y) (by simp [results, Tryz.results125, go_sem]) rfl ⟨rfl, (((Below.refl _ _).alloc (Nat.le_refl _) _).alloc (by simp) _).drew⟩
end Go.Proofs.YthjngodkpldpfaaGreatDoor
end

section
namespace Go.Proofs.YthjngodkpldpfaaGreatDoor
open Go.RowKit

theorem cast_mul_pow (a n : Nat) : (a : Int) * 2 ^ n = ((a * 2 ^ n : Nat) : Int) := by simp
theorem cast_div_pow (a n : Nat) : (a : Int) / 2 ^ n = ((a / 2 ^ n : Nat) : Int) := by simp

theorem mul_add_mod_lt {q b r : Nat} (h : r < b) : (q * b + r) % b = r := by
  rw [Nat.mul_comm, Nat.mul_add_mod, Nat.mod_eq_of_lt h]
/-- the halves of a product by P, P Q being 2^64 -/
theorem left_math (hi lo P Q B : Nat) (hB : P * Q = B) (hQ : 0 < Q) (hlo : lo < B) (h : (hi * B + lo) * P < B * B) :
    hi * P < B ∧ lo / Q < P ∧ (hi * B + lo) * P = (hi * P + lo / Q) * B + lo * P % B ∧ hi * P + lo / Q < B := by
  have hBp : 0 < B := by omega
  have e1 : (hi * B + lo) * P = hi * P * B + lo * P := by
    rw [Nat.add_mul, Nat.mul_right_comm]
  have h1 : hi * P < B := by
    rcases Nat.lt_or_ge (hi * P) B with k | k
    · exact k
    · have := Nat.mul_le_mul_right B k; omega
  have h2 : lo / Q < P := (Nat.div_lt_iff_lt_mul hQ).2 (by rw [hB]; exact hlo)
  have e2 := Nat.div_add_mod lo Q
  have e3 : lo * P = lo / Q * B + lo % Q * P := by
    conv => lhs; rw [← e2]
    rw [Nat.add_mul, Nat.mul_comm Q, Nat.mul_assoc, Nat.mul_comm Q P, hB]
  have h3 : lo % Q * P < B := by
    have := Nat.mul_lt_mul_of_pos_right (Nat.mod_lt lo hQ) (Nat.lt_of_le_of_lt (Nat.zero_le _) h2)
    rw [Nat.mul_comm Q P, hB] at this; exact this
  have e4 : lo * P % B = lo % Q * P := by
    rw [e3, mul_add_mod_lt h3]
  have e5 : (hi * B + lo) * P = (hi * P + lo / Q) * B + lo * P % B := by
    rw [e1, e4, Nat.add_mul]; omega
  refine ⟨h1, h2, e5, ?_⟩
  rcases Nat.lt_or_ge (hi * P + lo / Q) B with k | k
  · exact k
  · have := Nat.mul_le_mul_right B k; omega
theorem right_math (hi lo P Q B : Nat) (hB : P * Q = B) (hP : 0 < P) (hQ : 0 < Q) (hlo : lo < B) :
    hi * Q % B = hi % P * Q ∧ lo / P < Q ∧ (hi * B + lo) / P = hi / P * B + (hi % P * Q + lo / P) ∧ hi % P * Q + lo / P < B := by
  have h2 : lo / P < Q := (Nat.div_lt_iff_lt_mul hP).2 (by rw [Nat.mul_comm, hB]; exact hlo)
  have e2 := Nat.div_add_mod hi P
  have h3 : hi % P * Q + Q ≤ B := by
    have := Nat.mul_le_mul_right Q (Nat.succ_le_of_lt (Nat.mod_lt hi hP))
    rw [Nat.succ_mul, hB] at this; exact this
  have e3 : hi * Q = hi / P * B + hi % P * Q := by
    conv => lhs; rw [← e2]
    rw [Nat.add_mul, Nat.mul_comm P, Nat.mul_assoc, hB]
  have e4 : hi * Q % B = hi % P * Q := by
    rw [e3, mul_add_mod_lt (by omega)]
  have e5 : (hi * B + lo) / P = hi * Q + lo / P := by
    rw [← hB, show hi * (P * Q) + lo = lo + P * (hi * Q) from by rw [Nat.mul_left_comm]; omega, Nat.add_mul_div_left _ _ hP]; omega
  exact ⟨e4, h2, by rw [e5, e3]; omega, by omega⟩

set_option maxHeartbeats 400000 in
theorem plus_v (h1 l1 h2 l2 x y : Nat) (hy : IntKind.u64.wrap ((l1 : Int) + (l2 : Int)) = (y : Int)) (w : World) (hc : (y : Int) < (l1 : Int) ∧ IntKind.u64.wrap (IntKind.u64.wrap ((h1 : Int) + (h2 : Int)) + 1) = (x : Int) ∨ ¬ (y : Int) < (l1 : Int) ∧ IntKind.u64.wrap ((h1 : Int) + (h2 : Int)) = (x : Int)) :
    Calls Tryz.prog 98 #[wv h1 l1, wv h2 l2] w fun e w' => e = .returned (wv x y) ∧ Below w.heap.size w w' := by
  rcases hc with ⟨c1, c2⟩ | ⟨c1, c2⟩
  all_goals
    go_enter Tryz.func98, Tryz.ntmps98
    go_wp2
    exact bodyPost_ret (v := wv x y) (by simp [results, Tryz.results98, go_sem]) rfl ⟨rfl, (((Below.refl _ _).alloc (Nat.le_refl _) _).alloc (by simp) _).alloc (by simp; omega) _⟩
theorem B64 : (18446744073709551616 : Nat) = 2 ^ 64 := by decide
theorem left_W (W n : Nat) (hn : n ≤ 127) (hW : W * 2 ^ n < 18446744073709551616 * 18446744073709551616) (w : World) :
    Calls Tryz.prog 96 #[wW W, .int .i64 (n : Int)] w fun e w' => e = .returned (wW (W * 2 ^ n)) ∧ Below w.heap.size w w' := by
  have hlo : W % 18446744073709551616 < 18446744073709551616 := Nat.mod_lt _ (by decide)
  have hWd : W = W / 18446744073709551616 * 18446744073709551616 + W % 18446744073709551616 := by omega
  by_cases h1 : 64 ≤ n
  · have e0 : 2 ^ n = 2 ^ (n - 64) * 18446744073709551616 := by rw [B64, ← Nat.pow_add]; congr 1; omega
    have hp := Nat.two_pow_pos (n - 64)
    have hlt : W * 2 ^ (n - 64) < 18446744073709551616 := by
      rw [e0, ← Nat.mul_assoc] at hW
      exact Nat.lt_of_mul_lt_mul_right hW
    have hWs : W < 18446744073709551616 := by
      have := Nat.mul_le_mul_left W hp; omega
    have e1 : wW (W * 2 ^ n) = wv (W * 2 ^ (n - 64)) 0 := by
      have := wW_of (W * 2 ^ (n - 64)) 0 (by decide)
      rw [Nat.add_zero] at this
      rw [e0, ← Nat.mul_assoc]; exact this
    rw [e1]
    unfold wW
    rw [Nat.div_eq_of_lt hWs, Nat.mod_eq_of_lt hWs]
    exact left_big 0 W n _ (by omega) (by omega) (by rw [cast_mul_pow, wrap_nat _ hlt]) w
  · by_cases h2 : n = 0
    · subst h2
      rw [Nat.pow_zero, Nat.mul_one, show ((0 : Nat) : Int) = 0 from rfl]
      unfold wW
      exact left_zero (W / 18446744073709551616) (W % 18446744073709551616) w
    · have hPQ := pow64 n (by omega)
      have hW' := hW
      rw [hWd] at hW'
      obtain ⟨a1, a2, a3, a4⟩ := left_math _ _ _ _ _ hPQ (Nat.two_pow_pos _) hlo hW'
      rw [← hWd] at a3
      have e1 : wW (W * 2 ^ n) = wv (W / 18446744073709551616 * 2 ^ n + W % 18446744073709551616 / 2 ^ (64 - n)) (W % 18446744073709551616 * 2 ^ n % 18446744073709551616) := by
        rw [a3]; exact wW_of _ _ (Nat.mod_lt _ (by decide))
      rw [e1]
      refine left_mid _ _ n _ _ (by omega) (beqN_f (y := 0) h2) ?_ ?_ w
      · rw [cast_mul_pow, cast_div_pow, wrap_nat _ a1, u64_or_nat _ _ a1 (by omega), nat_join n _ _ (Nat.mul_mod_left _ _) a2]
      · rw [cast_mul_pow, wrap_mod]
theorem right_W (W n : Nat) (hn : n ≤ 127) (h0 : 1 ≤ n) (hW : W < 18446744073709551616 * 18446744073709551616) (w : World) :
    Calls Tryz.prog 125 #[wW W, .int .i64 (n : Int)] w fun e w' => e = .returned (wW (W / 2 ^ n)) ∧ Below w.heap.size w w' := by
  have hlo : W % 18446744073709551616 < 18446744073709551616 := Nat.mod_lt _ (by decide)
  have hhi : W / 18446744073709551616 < 18446744073709551616 := (Nat.div_lt_iff_lt_mul (by decide)).2 hW
  have hWd : W = W / 18446744073709551616 * 18446744073709551616 + W % 18446744073709551616 := by omega
  by_cases h1 : 64 ≤ n
  · have e0 : 2 ^ n = 18446744073709551616 * 2 ^ (n - 64) := by rw [B64, ← Nat.pow_add]; congr 1; omega
    have hlt : W / 18446744073709551616 / 2 ^ (n - 64) < 18446744073709551616 := Nat.lt_of_le_of_lt (Nat.div_le_self _ _) hhi
    have e1 : wW (W / 2 ^ n) = wv 0 (W / 18446744073709551616 / 2 ^ (n - 64)) := by
      rw [e0, ← Nat.div_div_eq_div_mul]
      have := wW_of 0 _ hlt
      rw [Nat.zero_mul, Nat.zero_add] at this; exact this
    rw [e1]
    exact right_big _ _ n _ (by omega) (by omega) (cast_div_pow _ _) w
  · have hPQ := pow64 n (by omega)
    obtain ⟨a1, a2, a3, a4⟩ := right_math (W / 18446744073709551616) (W % 18446744073709551616) _ _ _ hPQ (Nat.two_pow_pos _) (Nat.two_pow_pos _) hlo
    rw [← hWd] at a3
    have e1 : wW (W / 2 ^ n) = wv (W / 18446744073709551616 / 2 ^ n) (W / 18446744073709551616 % 2 ^ n * 2 ^ (64 - n) + W % 18446744073709551616 / 2 ^ n) := by
      rw [a3]; exact wW_of _ _ a4
    rw [e1]
    refine right_mid _ _ n _ _ (by omega) (beqN_f (y := 0) (by omega)) (cast_div_pow _ _) ?_ w
    rw [cast_mul_pow, cast_div_pow, wrap_mod, a1, u64_or_nat _ _ (by omega) (by omega), Nat.or_comm, nat_join (64 - n) _ _ (Nat.mul_mod_left _ _) a2]
end Go.Proofs.YthjngodkpldpfaaGreatDoor
end

section
namespace Go.Proofs.YthjngodkpldpfaaGreatDoor
open Go.RowKit

theorem plus_W (W V : Nat) (h : W + V < 18446744073709551616 * 18446744073709551616) (w : World) :
    Calls Tryz.prog 98 #[wW W, wW V] w fun e w' => e = .returned (wW (W + V)) ∧ Below w.heap.size w w' := by
  have a1 : W = W / 18446744073709551616 * 18446744073709551616 + W % 18446744073709551616 := by omega
  have a2 : V = V / 18446744073709551616 * 18446744073709551616 + V % 18446744073709551616 := by omega
  have b1 : W % 18446744073709551616 < 18446744073709551616 := Nat.mod_lt _ (by decide)
  have b2 : V % 18446744073709551616 < 18446744073709551616 := Nat.mod_lt _ (by decide)
  generalize hh1 : W / 18446744073709551616 = h1 at *
  generalize hh2 : V / 18446744073709551616 = h2 at *
  generalize hl1 : W % 18446744073709551616 = l1 at *
  generalize hl2 : V % 18446744073709551616 = l2 at *
  have eW : wW W = wv h1 l1 := by unfold wW; rw [hh1, hl1]
  have eV : wW V = wv h2 l2 := by unfold wW; rw [hh2, hl2]
  rw [eW, eV]
  by_cases hc : l1 + l2 < 18446744073709551616
  · have e : wW (W + V) = wv (h1 + h2) (l1 + l2) := by
      rw [show W + V = (h1 + h2) * 18446744073709551616 + (l1 + l2) from by omega]; exact wW_of _ _ hc
    rw [e]
    refine plus_v h1 l1 h2 l2 _ _ ?_ w (.inr ⟨by omega, ?_⟩)
    · rw [IntKind.wrap_u64]; omega
    · rw [IntKind.wrap_u64]; omega
  · have e : wW (W + V) = wv (h1 + h2 + 1) (l1 + l2 - 18446744073709551616) := by
      rw [show W + V = (h1 + h2 + 1) * 18446744073709551616 + (l1 + l2 - 18446744073709551616) from by omega]; exact wW_of _ _ (by omega)
    rw [e]
    refine plus_v h1 l1 h2 l2 _ _ ?_ w (.inl ⟨by omega, ?_⟩)
    · rw [IntKind.wrap_u64]; omega
    · rw [IntKind.wrap_u64, IntKind.wrap_u64]; omega

set_option maxHeartbeats 400000 in
theorem minus_v (h1 l1 h2 l2 x y : Nat) (hy : IntKind.u64.wrap ((l1 : Int) - (l2 : Int)) = (y : Int)) (w : World) (hc : (l1 : Int) < (l2 : Int) ∧ IntKind.u64.wrap (IntKind.u64.wrap ((h1 : Int) - (h2 : Int)) - 1) = (x : Int) ∨ ¬ (l1 : Int) < (l2 : Int) ∧ IntKind.u64.wrap ((h1 : Int) - (h2 : Int)) = (x : Int)) :
    Calls Tryz.prog 99 #[wv h1 l1, wv h2 l2] w fun e w' => e = .returned (wv x y) ∧ Below w.heap.size w w' := by
  rcases hc with ⟨c1, c2⟩ | ⟨c1, c2⟩
  all_goals
    go_enter Tryz.func99, Tryz.ntmps99
    go_wp2
    exact bodyPost_ret (v := wv x y) (by simp [results, Tryz.results99, go_sem]) rfl ⟨rfl, (((Below.refl _ _).alloc (Nat.le_refl _) _).alloc (by simp) _).alloc (by simp; omega) _⟩
theorem minus_W (W V : Nat) (h : V ≤ W) (hW : W < 18446744073709551616 * 18446744073709551616) (w : World) :
    Calls Tryz.prog 99 #[wW W, wW V] w fun e w' => e = .returned (wW (W - V)) ∧ Below w.heap.size w w' := by
  have a1 : W = W / 18446744073709551616 * 18446744073709551616 + W % 18446744073709551616 := by omega
  have a2 : V = V / 18446744073709551616 * 18446744073709551616 + V % 18446744073709551616 := by omega
  have b1 : W % 18446744073709551616 < 18446744073709551616 := Nat.mod_lt _ (by decide)
  have b2 : V % 18446744073709551616 < 18446744073709551616 := Nat.mod_lt _ (by decide)
  generalize hh1 : W / 18446744073709551616 = h1 at *
  generalize hh2 : V / 18446744073709551616 = h2 at *
  generalize hl1 : W % 18446744073709551616 = l1 at *
  generalize hl2 : V % 18446744073709551616 = l2 at *
  have eW : wW W = wv h1 l1 := by unfold wW; rw [hh1, hl1]
  have eV : wW V = wv h2 l2 := by unfold wW; rw [hh2, hl2]
  rw [eW, eV]
  by_cases hc : l1 < l2
  · have e : wW (W - V) = wv (h1 - h2 - 1) (l1 + 18446744073709551616 - l2) := by
      rw [show W - V = (h1 - h2 - 1) * 18446744073709551616 + (l1 + 18446744073709551616 - l2) from by omega]; exact wW_of _ _ (by omega)
    rw [e]
    refine minus_v h1 l1 h2 l2 _ _ ?_ w (.inl ⟨by omega, ?_⟩)
    · rw [IntKind.wrap_u64]; omega
    · rw [IntKind.wrap_u64, IntKind.wrap_u64]; omega
  · have e : wW (W - V) = wv (h1 - h2) (l1 - l2) := by
      rw [show W - V = (h1 - h2) * 18446744073709551616 + (l1 - l2) from by omega]; exact wW_of _ _ (by omega)
    rw [e]
    refine minus_v h1 l1 h2 l2 _ _ ?_ w (.inr ⟨by omega, ?_⟩)
    · rw [IntKind.wrap_u64]; omega
    · rw [IntKind.wrap_u64]; omega

set_option maxHeartbeats 400000 in
theorem less_v (h1 l1 h2 l2 : Nat) (b : Bool) (w : World) (hc : h1 < h2 ∧ b = true ∨ (h2 ≤ h1 ∧ ((h1 : Int) == (h2 : Int)) = false ∧ b = false) ∨ (h2 ≤ h1 ∧ ((h1 : Int) == (h2 : Int)) = true ∧ decide (l1 < l2) = b)) :
    Calls Tryz.prog 126 #[wv h1 l1, wv h2 l2] w fun e w' => e = .returned (.bool b) ∧ Below w.heap.size w w' := by
  rcases hc with ⟨c1, rfl⟩ | ⟨c1, c2, rfl⟩ | ⟨c1, c2, c3⟩
  all_goals
    go_enter Tryz.func126, Tryz.ntmps126
    go_wp2
    go_ret
    refine ⟨?_, ((Below.refl _ _).alloc (Nat.le_refl _) _).alloc (by simp) _⟩
    first | rfl | exact congrArg (fun b => Ending.returned (Value.bool b)) (by simp; omega) | (refine congrArg (fun b => Ending.returned (Value.bool b)) ?_; rw [← c3, Bool.eq_iff_iff]; simp; omega)
theorem less_W (W V : Nat) (w : World) :
    Calls Tryz.prog 126 #[wW W, wW V] w fun e w' => e = .returned (.bool (decide (W < V))) ∧ Below w.heap.size w w' := by
  have a1 : W = W / 18446744073709551616 * 18446744073709551616 + W % 18446744073709551616 := by omega
  have a2 : V = V / 18446744073709551616 * 18446744073709551616 + V % 18446744073709551616 := by omega
  have b1 : W % 18446744073709551616 < 18446744073709551616 := Nat.mod_lt _ (by decide)
  have b2 : V % 18446744073709551616 < 18446744073709551616 := Nat.mod_lt _ (by decide)
  generalize hh1 : W / 18446744073709551616 = h1 at *
  generalize hh2 : V / 18446744073709551616 = h2 at *
  generalize hl1 : W % 18446744073709551616 = l1 at *
  generalize hl2 : V % 18446744073709551616 = l2 at *
  have eW : wW W = wv h1 l1 := by unfold wW; rw [hh1, hl1]
  have eV : wW V = wv h2 l2 := by unfold wW; rw [hh2, hl2]
  rw [eW, eV]
  refine less_v h1 l1 h2 l2 _ w ?_
  rcases Nat.lt_trichotomy h1 h2 with k | k | k
  · exact .inl ⟨k, decide_eq_true (by omega)⟩
  · refine .inr (.inr ⟨by omega, beqN_t k, ?_⟩)
    rw [Bool.eq_iff_iff]; simp; omega
  · exact .inr (.inl ⟨by omega, beqN_f (by omega), decide_eq_false (by omega)⟩)
end Go.Proofs.YthjngodkpldpfaaGreatDoor
end

section
namespace Go.Proofs.YthjngodkpldpfaaGreatDoor
open Go.RowKit

/-- how many bits -/
def bl (W : Nat) : Nat := if W = 0 then 0 else W.log2 + 1
def hiN (V : Nat) : Nat := V / 18446744073709551616
def loN (V : Nat) : Nat := V % 18446744073709551616
theorem right_h (V : Nat) (hV : V < 18446744073709551616 * 18446744073709551616) (w : World) :
    Calls Tryz.prog 125 #[wv (hiN V) (loN V), .int .i64 1] w fun e w' => e = .returned (wv (hiN (V / 2)) (loN (V / 2))) ∧ Below w.heap.size w w' := by
  have := right_W V 1 (by decide) (by decide) hV w
  unfold wW at this
  rw [Nat.pow_one] at this
  exact this
theorem p128 : (2 : Nat) ^ 128 = 18446744073709551616 * 18446744073709551616 := by decide
theorem bl_of (W k : Nat) (h1 : W / 2 ^ k = 0) (h2 : k = 0 ∨ W / 2 ^ (k - 1) ≠ 0) : bl W = k := by
  have hp := Nat.two_pow_pos k
  have hlt : W < 2 ^ k := by
    rcases Nat.lt_or_ge W (2 ^ k) with h | h
    · exact h
    · have := Nat.div_pos h hp; omega
  unfold bl
  rcases h2 with h2 | h2
  · subst h2; rw [if_pos (by simpa using hlt)]
  · have hne : W ≠ 0 := by intro e; subst e; simp at h2
    rw [if_neg hne]
    have hge : 2 ^ (k - 1) ≤ W := by
      rcases Nat.lt_or_ge W (2 ^ (k - 1)) with h | h
      · exact absurd (Nat.div_eq_of_lt h) h2
      · exact h
    have hk : k ≠ 0 := by intro e; subst e; simp at hlt hge; omega
    have := Gn.log2_of (m := W) (k := k - 1) hge (by rw [show k - 1 + 1 = k from by omega]; exact hlt)
    omega
theorem hl_zero {V : Nat} (h : V = 0) : (hiN V : Int) = 0 ∧ (loN V : Int) = 0 := by subst h; exact ⟨rfl, rfl⟩
theorem hl_pos {V : Nat} (h : V ≠ 0) : 0 < hiN V ∨ (hiN V = 0 ∧ 0 < loN V) := by unfold hiN loN; omega
theorem cells2 {w1 : World} {B : Nat} {a b c d : Value} (h0 : w1.cell? ⟨B, 0, none⟩ = some a) (h1 : w1.cell? ⟨B, 1, none⟩ = some b) :
    ((w1.setCell ⟨B, 0, none⟩ c).setCell ⟨B, 1, none⟩ d).cell? ⟨B, 0, none⟩ = some c ∧ ((w1.setCell ⟨B, 0, none⟩ c).setCell ⟨B, 1, none⟩ d).cell? ⟨B, 1, none⟩ = some d := by
  constructor
  · simp [h0, go_sem]
  · simp [h1, go_sem]
set_option maxHeartbeats 1000000 in
theorem length_W (W : Nat) (hW : W < 18446744073709551616 * 18446744073709551616) (w : World) :
    Calls Tryz.prog 124 #[wW W] w fun e w' => e = .returned (.int .i64 (bl W : Int)) ∧ Below w.heap.size w w' := by
  have eW : wW W = wv (hiN W) (loN W) := rfl
  rw [eW]
  have HW : Hid (W < 18446744073709551616 * 18446744073709551616) := hW
  clear eW hW
  go_enter Tryz.func124, Tryz.ntmps124
  go_wp2
  go_loopw [3] (fun c wr => ∃ k : Nat, c = .int .i64 (k : Int) ∧ k ≤ 128 ∧ (k = 0 ∨ W / 2 ^ (k - 1) ≠ 0) ∧ Below w.heap.size w wr ∧ w.heap.size < wr.heap.size ∧ wr.cell? ⟨w.heap.size, 0, none⟩ = some (.int .u64 (hiN (W / 2 ^ k) : Int)) ∧ wr.cell? ⟨w.heap.size, 1, none⟩ = some (.int .u64 (loN (W / 2 ^ k) : Int)) ∧ wr.frozen? ⟨w.heap.size, 0, none⟩ = false ∧ wr.frozen? ⟨w.heap.size, 1, none⟩ = false) (fun c _ => 200 - (intOf c).toNat)
  case atStart =>
    exact ⟨0, rfl, by omega, .inl rfl, (Below.refl _ _).alloc (Nat.le_refl _) _, by simp, by simp, by simp, by simp, by simp⟩
  case round =>
    obtain ⟨k, rfl, hk, hk2, hb, hs, c0, c1, f0, f1⟩ := hrel
    by_cases hz : W / 2 ^ k = 0
    · obtain ⟨z0, z1⟩ := hl_zero hz
      have hl := bl_of W k hz hk2
      rw [z0] at c0
      rw [z1] at c1
      clear hz hk2 z0 z1
      go_wp2
      go_ret
      exact ⟨by rw [hl]; rfl, hb⟩
    · have hVlt : W / 2 ^ k < 18446744073709551616 * 18446744073709551616 := Nat.lt_of_le_of_lt (Nat.div_le_self _ _) HW.out
      have HV : Hid (W / 2 ^ k < 18446744073709551616 * 18446744073709551616) := hVlt
      have HZ : Hid (∀ j, j = k + 1 → W / 2 ^ (j - 1) ≠ 0) := fun j hj => by subst hj; rw [Nat.add_sub_cancel]; exact hz
      have hk3 : k < 128 := by
        rcases Nat.lt_or_ge k 128 with h | h
        · exact h
        · exfalso; apply hz
          have : k = 128 := by omega
          subst this
          have h128 := HW.out
          rw [← p128] at h128
          exact Nat.div_eq_of_lt h128
      have hpos := hl_pos hz
      have HD : Hid (W / 2 ^ k / 2 = W / 2 ^ (k + 1)) := by
        show _ = _
        rw [Nat.div_div_eq_div_mul, ← Nat.pow_succ]
      clear hVlt hk2 hz
      generalize W / 2 ^ k = V at *
      have hr : (0 < hiN V ∧ ∀ wx, Calls Tryz.prog 125 #[wv (hiN V) (loN V), .int .i64 1] wx fun e w' => e = .returned (wv (hiN (V / 2)) (loN (V / 2))) ∧ Below wx.heap.size wx w') ∨ (hiN V = 0 ∧ 0 < loN V ∧ ∀ wx, Calls Tryz.prog 125 #[wv 0 (loN V), .int .i64 1] wx fun e w' => e = .returned (wv (hiN (V / 2)) (loN (V / 2))) ∧ Below wx.heap.size wx w') := by
        rcases hpos with hp | ⟨hp0, hp⟩
        · exact .inl ⟨hp, fun wx => right_h V HV.out wx⟩
        · refine .inr ⟨hp0, hp, fun wx => ?_⟩
          have := right_h V HV.out wx
          rw [hp0] at this; exact this
      clear hpos
      rcases hr with ⟨hp, hr⟩ | ⟨hp0, hp, hr⟩
      all_goals
        have HR : Hid _ := hr
        clear hr
        go_wp2_with fail
        refine (HR.out _).mono ?_
        rintro e w1 ⟨rfl, hb1⟩
        have hc0 := hb1.cell (p := ⟨w.heap.size, 0, none⟩) hs
        have hc1 := hb1.cell (p := ⟨w.heap.size, 1, none⟩) hs
        have hf0 := hb1.frozen (p := ⟨w.heap.size, 0, none⟩) hs
        have hf1 := hb1.frozen (p := ⟨w.heap.size, 1, none⟩) hs
        have hs1 : w.heap.size < w1.heap.size := by have := hb1.size; omega
        rw [c0] at hc0
        rw [c1] at hc1
        rw [f0] at hf0
        rw [f1] at hf1
        clear c0 c1 f0 f1
        go_wp2
        go_roundw
        case rel =>
          obtain ⟨q0, q1⟩ := cells2 (c := .int .u64 (hiN (V / 2) : Int)) (d := .int .u64 (loN (V / 2) : Int)) hc0 hc1
          rw [HD.out] at q0 q1 ⊢
          exact ⟨k + 1, by go_num, by omega, .inr (HZ.out (k + 1) rfl), ((hb.trans (hb1.mono (by omega))).setCell (Nat.le_refl _) _).setCell (Nat.le_refl _) _, by simp; exact hs1, q0, q1, by simp [hf0], by simp [hf1]⟩
        case measure => simp [intOf]; omega
end Go.Proofs.YthjngodkpldpfaaGreatDoor
end

section
namespace Go.Proofs.YthjngodkpldpfaaGreatDoor
open Go.RowKit

abbrev wn (V : Nat) : Value := .agg #[.int .u64 (hiN V : Int), .int .u64 (loN V : Int)]
theorem wW_wn (V : Nat) : wW V = wn V := rfl
theorem length_n (W : Nat) (hW : W < 18446744073709551616 * 18446744073709551616) (w : World) :
    Calls Tryz.prog 124 #[wn W] w fun e w' => e = .returned (.int .i64 (bl W : Int)) ∧ Below w.heap.size w w' := by
  have := length_W W hW w; rw [wW_wn] at this; exact this
theorem left_n (W n : Nat) (hn : n ≤ 127) (hW : W * 2 ^ n < 18446744073709551616 * 18446744073709551616) (w : World) :
    Calls Tryz.prog 96 #[wn W, .int .i64 (n : Int)] w fun e w' => e = .returned (wn (W * 2 ^ n)) ∧ Below w.heap.size w w' := by
  have := left_W W n hn hW w; rw [wW_wn, wW_wn] at this; exact this
theorem right_n (W n : Nat) (hn : n ≤ 127) (h0 : 1 ≤ n) (hW : W < 18446744073709551616 * 18446744073709551616) (w : World) :
    Calls Tryz.prog 125 #[wn W, .int .i64 (n : Int)] w fun e w' => e = .returned (wn (W / 2 ^ n)) ∧ Below w.heap.size w w' := by
  have := right_W W n hn h0 hW w; rw [wW_wn, wW_wn] at this; exact this
theorem minus_n (W V : Nat) (h : V ≤ W) (hW : W < 18446744073709551616 * 18446744073709551616) (w : World) :
    Calls Tryz.prog 99 #[wn W, wn V] w fun e w' => e = .returned (wn (W - V)) ∧ Below w.heap.size w w' := by
  have := minus_W W V h hW w; rw [wW_wn, wW_wn, wW_wn] at this; exact this
theorem less_n (W V : Nat) (w : World) :
    Calls Tryz.prog 126 #[wn W, wn V] w fun e w' => e = .returned (.bool (decide (W < V))) ∧ Below w.heap.size w w' := by
  have := less_W W V w; rw [wW_wn, wW_wn] at this; exact this

/-- the facts of a box that a later world keeps -/
theorem keep2 {a b : World} {B : Nat} {x y : Value} (hb : Below a.heap.size a b) (hB : B < a.heap.size) (h0 : a.cell? ⟨B, 0, none⟩ = some x) (h1 : a.cell? ⟨B, 1, none⟩ = some y) (f0 : a.frozen? ⟨B, 0, none⟩ = false) (f1 : a.frozen? ⟨B, 1, none⟩ = false) :
    b.cell? ⟨B, 0, none⟩ = some x ∧ b.cell? ⟨B, 1, none⟩ = some y ∧ b.frozen? ⟨B, 0, none⟩ = false ∧ b.frozen? ⟨B, 1, none⟩ = false ∧ B < b.heap.size :=
  ⟨by rw [hb.cell (p := ⟨B, 0, none⟩) hB]; exact h0, by rw [hb.cell (p := ⟨B, 1, none⟩) hB]; exact h1, by rw [hb.frozen (p := ⟨B, 0, none⟩) hB]; exact f0, by rw [hb.frozen (p := ⟨B, 1, none⟩) hB]; exact f1, Nat.lt_of_lt_of_le hB hb.size⟩

set_option maxHeartbeats 2000000 in
theorem rounded_far (s W : Nat) (e : Int) (rest : Bool) (h1 : -4400 ≤ e) (h2 : e ≤ 4400) (hL : bl W ≤ 128) (HW : Hid (W < 18446744073709551616 * 18446744073709551616))
    (hq : e + (bl W : Int) - 53 < -1074) (hn : (127 : Int) < -1074 - e) (w : World) :
    Calls Tryz.prog 97 #[.int .u64 (s : Int), wn W, .int .i64 e, .bool rest] w fun e' w' => e' = .returned (.int .u64 (s : Int)) ∧ Below w.heap.size w w' := by
  go_enter Tryz.func97, Tryz.ntmps97
  go_wp2_with fail
  refine (length_n W HW.out _).mono ?_
  rintro e' w1 ⟨rfl, hb1⟩
  go_wp2_with fail
  go_ret
  exact ⟨rfl, ((Below.refl _ _).alloc (Nat.le_refl _) _).trans (hb1.mono (by simp))⟩
set_option maxHeartbeats 2000000 in
/-- without rounding: the amount is shifted up -/
theorem rounded_left (s W n : Nat) (e q : Int) (rest : Bool) (b : Nat) (_h1 : -4400 ≤ e) (_h2 : e ≤ 4400) (hL : bl W ≤ 128) (HW : Hid (W < 18446744073709551616 * 18446744073709551616)) (w : World)
    (hq : e + (bl W : Int) - 53 = q) (hq1 : -1074 ≤ q) (hq2 : q ≤ 971) (hqe : q - e = -(n : Int)) (hn : n ≤ 127) (HN : Hid (W * 2 ^ n < 18446744073709551616 * 18446744073709551616))
    (x : Nat) (hx : (q + 1074) * 4503599627370496 = (x : Int)) (hx2 : IntKind.u64.wrap (x : Int) = (x : Int)) (m : Nat) (hmw : loN (W * 2 ^ n) = m) (hb : IntKind.u64.wrap ((x : Int) + (m : Int)) = (b : Int)) (hbi : decide ((9218868437227405312 : Int) ≤ (b : Int)) = false) (r : Nat) (hr : bits .or .u64 (s : Int) (b : Int) = (r : Int)) :
    Calls Tryz.prog 97 #[.int .u64 (s : Int), wn W, .int .i64 e, .bool rest] w fun e' w' => e' = .returned (.int .u64 (r : Int)) ∧ Below w.heap.size w w' := by
  go_enter Tryz.func97, Tryz.ntmps97
  go_wp2_with fail
  refine (length_n W HW.out _).mono ?_
  rintro e' w1 ⟨rfl, hb1⟩
  obtain ⟨p0, p1, p2, p3, p4⟩ := keep2 (B := w.heap.size) hb1 (by simp) (by simp; rfl) (by simp; rfl) (by simp) (by simp)
  go_wp2_with fail
  refine (left_n W n hn HN.out _).mono ?_
  rintro e' w2 ⟨rfl, hb2⟩
  clear HN HW
  generalize W * 2 ^ n = V at *
  obtain ⟨t0, t1, t2, t3, t4⟩ := keep2 (B := w1.heap.size) hb2 (by simp) (by simp; rfl) (by simp; rfl) (by simp) (by simp)
  go_wp2_with fail
  go_ret
  have B1 := ((Below.refl w.heap.size w).alloc (Nat.le_refl _) _).trans (hb1.mono (by simp))
  have hs1 := B1.size
  have B3 := (B1.alloc hs1 _).trans (hb2.mono (by simp; omega))
  exact ⟨rfl, (B3.setCell (p := ⟨w1.heap.size, 0, none⟩) hs1 _).setCell (p := ⟨w1.heap.size, 1, none⟩) hs1 _⟩
end Go.Proofs.YthjngodkpldpfaaGreatDoor
end

section
namespace Go.Proofs.YthjngodkpldpfaaGreatDoor
open Go.RowKit

theorem or_sign (v : Bool) (b : Nat) (h : b < 9223372036854775808) : bits .or .u64 ((if v then 9223372036854775808 else 0 : Nat) : Int) (b : Int) = (Gn.wd v b : Int) := by
  cases v
  · rw [if_neg (by simp), u64_or_nat _ _ (by decide) (by omega), Nat.zero_or]; rfl
  · rw [if_pos rfl, u64_or_nat _ _ (by decide) (by omega)]
    have := Nat.two_pow_add_eq_or_of_lt (i := 63) h 1
    rw [Nat.mul_one] at this
    have e : 9223372036854775808 ||| b = 9223372036854775808 + b := this.symm
    rw [e]; rfl
/-- a whole number below 2^53, as the document rounds it -/
theorem rounded_M (v : Bool) (M : Nat) (h0 : M ≠ 0) (hM : M < 9007199254740992) (w : World) :
    Calls Tryz.prog 97 #[.int .u64 ((if v then 9223372036854775808 else 0 : Nat) : Int), .agg #[.int .u64 0, .int .u64 (M : Int)], .int .i64 0, .bool false] w fun e' w' => e' = .returned (.int .u64 (Gn.wd v (Gn.rn (M * Gn.UU)) : Int)) ∧ Below w.heap.size w w' := by
  have hl : M.log2 ≤ 52 := by
    have := (Nat.log2_lt (n := M) (k := 53) h0).2 (by rw [show (2 : Nat) ^ 53 = 9007199254740992 from by decide]; exact hM); omega
  have hbl : bl M = M.log2 + 1 := by unfold bl; rw [if_neg h0]
  have g1 : 2 ^ M.log2 ≤ M := Nat.log2_self_le h0
  have g2 : M < 2 ^ (M.log2 + 1) := Nat.lt_log2_self
  have hsh : M * 2 ^ (52 - M.log2) < 9007199254740992 := by
    have h3 : M * 2 ^ (52 - M.log2) < 2 ^ (M.log2 + 1) * 2 ^ (52 - M.log2) := Nat.mul_lt_mul_of_pos_right g2 (Nat.two_pow_pos _)
    rw [← Nat.pow_add, show M.log2 + 1 + (52 - M.log2) = 53 from by omega, show (2 : Nat) ^ 53 = 9007199254740992 from by decide] at h3
    exact h3
  have hrn : Gn.rn (M * Gn.UU) = (M.log2 + 1022) * 4503599627370496 + M * 2 ^ (52 - M.log2) := by
    have e1 := Gn.rung_rn M 0 (by omega)
    rw [show ((0 : Int) + 1074).toNat = 1074 from rfl, Gn.UU_def] at e1
    rw [← e1, Gn.rung_U M 0 h0]
    unfold Gn.rungU
    have e2 : max ((0 : Int) + (M.log2 : Int) - 52) (-1074) = (M.log2 : Int) - 52 := by omega
    rw [e2, show ((M.log2 : Int) - 52 + 1074).toNat = M.log2 + 1022 from by omega, show ((0 : Int) - ((M.log2 : Int) - 52)).toNat = 52 - M.log2 from by omega, show ((M.log2 : Int) - 52 - 0).toNat = 0 from by omega, Gn.rhe_zero]
    exact Nat.min_eq_left (by omega)
  have hlt := (Gn.rn_whole hM).2
  have hhi : hiN M = 0 := by unfold hiN; omega
  have hlo : loN M = M := by unfold loN; omega
  have hlo2 : loN (M * 2 ^ (52 - M.log2)) = M * 2 ^ (52 - M.log2) := by unfold loN; omega
  have := rounded_left (if v then 9223372036854775808 else 0) M (52 - M.log2) 0 ((M.log2 : Int) - 52) false (Gn.rn (M * Gn.UU)) (by decide) (by decide) (by omega) (show M < 18446744073709551616 * 18446744073709551616 by omega) w (by rw [hbl]; omega) (by omega) (by omega) (by omega) (by omega)
    (show M * 2 ^ (52 - M.log2) < 18446744073709551616 * 18446744073709551616 by omega) ((M.log2 + 1022) * 4503599627370496) (by omega) (wrap_nat _ (by omega)) (M * 2 ^ (52 - M.log2)) hlo2 (by rw [hrn]; exact wrap_nat _ (by omega)) (decide_eq_false (by omega)) _ (or_sign v _ (by omega))
  unfold wn at this
  rw [hhi, hlo] at this
  exact this
end Go.Proofs.YthjngodkpldpfaaGreatDoor
end
