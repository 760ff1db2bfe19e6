import Derived.Test.YteokcgclmgleiaaDoorWalkG
import Derived.Test.YteokcgclmgleiaaDoorShelfA
namespace Go.Proofs.YteokcgclmgleiaaDoor
open Go.RowKit

theorem below_bytes (w : World) (e : TypeId) (s : ByteArray) : Below w.heap.size w (Lib.bytesWorld w e s) :=
  ⟨rfl, rfl, rfl, by rw [Lib.bytesWorld_size]; omega, fun k hk => Lib.bytesWorld_at_old w e s k hk⟩
theorem below_drewN' {B : Nat} {a w : World} (h : Below B a w) (n : Nat) : Below B a (w.drewN n) := h.trans ⟨rfl, rfl, rfl, Nat.le_refl _, fun _ _ => rfl⟩

theorem bt {a b c : World} (h : Below a.heap.size a b) (k : Below b.heap.size b c) : Below a.heap.size a c := h.trans (k.mono h.size)
theorem bd (w : World) (n : Nat) : Below w.heap.size w (w.drewN n) := below_drewN' (Below.refl _ _) n

theorem pu_any (s : ByteArray) (u : Nat) (hmax : s.size ≤ 9223372036854775806) (h : Lib.parseUintB 64 s.data.toList = .ok u) (w : World) :
    Calls Tryd.prog 36 #[.string s, .int .i64 10, .int .i64 64] w fun e w' => e = .returned (.tuple #[.int .u64 u, .nilIface]) ∧ Below w.heap.size w w' := by
  refine (Tryd.strconv_ParseUint_10_at64_ok s hmax u h w).mono ?_
  rintro e w' ⟨rfl, hw⟩
  refine ⟨rfl, ?_⟩
  rcases hw with rfl | rfl
  · exact Below.refl _ _
  · exact below_bytes _ _ _
theorem atoi_any (s : ByteArray) (n : Int) (hl : s.size ≤ 18) (h : Lib.atoi s.data.toList = some n) (w : World) :
    Calls Tryd.prog 37 #[.string s] w fun e w' => e = .returned (.tuple #[.int .i64 n, .nilIface]) ∧ Below w.heap.size w w' := by
  refine (Tryd.strconv_Atoi s n hl h w).mono ?_
  rintro e w' ⟨rfl, t, rfl⟩
  exact ⟨rfl, below_bytes _ _ _⟩

theorem cut_5p1 (w : World) : Calls Tryd.prog 33 #[.string ⟨#[53, 112, 49]⟩, .string ⟨#[112]⟩] w fun e w' => e = .returned (.tuple #[.string ⟨#[53]⟩, .string ⟨#[49]⟩, .bool true]) ∧ ∃ n, w' = w.drewN n :=
  cut_yes ⟨#[53, 112, 49]⟩ 1 (by decide) (by decide) (by decide) w
theorem cut_2p0 (w : World) : Calls Tryd.prog 33 #[.string ⟨#[50, 112, 48]⟩, .string ⟨#[112]⟩] w fun e w' => e = .returned (.tuple #[.string ⟨#[50]⟩, .string ⟨#[48]⟩, .bool true]) ∧ ∃ n, w' = w.drewN n :=
  cut_yes ⟨#[50, 112, 48]⟩ 1 (by decide) (by decide) (by decide) w
theorem cut_1p1024 (w : World) : Calls Tryd.prog 33 #[.string ⟨#[49, 112, 49, 48, 50, 52]⟩, .string ⟨#[112]⟩] w fun e w' => e = .returned (.tuple #[.string ⟨#[49]⟩, .string ⟨#[49, 48, 50, 52]⟩, .bool true]) ∧ ∃ n, w' = w.drewN n :=
  cut_yes ⟨#[49, 112, 49, 48, 50, 52]⟩ 1 (by decide) (by decide) (by decide) w

set_option maxHeartbeats 400000 in
theorem parseAmount_5p1 (w : World) : Calls Tryd.prog 21 #[.string ⟨#[53, 112, 49]⟩] w fun e w' => e = .returned (.tuple #[.int .u64 4621819117588971520, .int .i64 0]) ∧ Below w.heap.size w w' := by
  have hof : floatOfInt .f64 5 = 4617315517961601024 := by decide
  have hbl : Lib.bitLen 5 = 3 := by decide
  have hcn : Gn.canonW 4621819117588971520 = 4621819117588971520 := by decide
  have hp5 : Lib.parseUintB 64 (⟨#[53]⟩ : ByteArray).data.toList = .ok 5 := by decide
  have ha1 : Lib.atoi (⟨#[49]⟩ : ByteArray).data.toList = some 1 := by decide
  go_enter Tryd.func21, Tryd.ntmps21
  go_wp2_with (first
    | (go_at_call 33; refine (cut_5p1 _).mono ?_; rintro e w' ⟨rfl, n, rfl⟩)
    | (go_at_call 34; refine (isOdd_5 _).mono ?_; rintro e w' ⟨rfl, rfl⟩)
    | (go_at_call 35; refine (isPower_1 _).mono ?_; rintro e w' ⟨rfl, rfl⟩)
    | (go_at_call 36; refine (pu_any ⟨#[53]⟩ 5 (by decide) hp5 _).mono ?_; rintro e w1 ⟨rfl, hb1⟩)
    | (go_at_call 37; refine (atoi_any ⟨#[49]⟩ 1 (by decide) ha1 _).mono ?_; rintro e w2 ⟨rfl, hb2⟩)
    | (go_at_call 38; refine (Tryd.bits_Len64 _ _ (by decide) (by decide)).mono ?_; rintro e w3 ⟨rfl, rfl⟩)
    | (go_at_call 39; refine (ldexp_5 _).mono ?_; rintro e w3 ⟨rfl, rfl⟩)
    | (go_at_call 25; refine (bitsOf_any 4621819117588971520 (by decide) _).mono ?_; rintro e w3 ⟨rfl, rfl⟩))
  go_ret2
  exact ⟨rfl, bt (bt (bd _ _) hb1) hb2⟩
set_option maxHeartbeats 400000 in
theorem parseAmount_2p0 (w : World) : Calls Tryd.prog 21 #[.string ⟨#[50, 112, 48]⟩] w fun e w' => e = .returned (.tuple #[.int .u64 0, .int .i64 10]) ∧ Below w.heap.size w w' := by
  go_enter Tryd.func21, Tryd.ntmps21
  go_wp2_with (first
    | (go_at_call 33; refine (cut_2p0 _).mono ?_; rintro e w' ⟨rfl, n, rfl⟩)
    | (go_at_call 34; refine (isOdd_2 _).mono ?_; rintro e w' ⟨rfl, rfl⟩))
  go_ret2
  exact ⟨rfl, bd _ _⟩
set_option maxHeartbeats 400000 in
theorem parseAmount_1p1024 (w : World) : Calls Tryd.prog 21 #[.string ⟨#[49, 112, 49, 48, 50, 52]⟩] w fun e w' => e = .returned (.tuple #[.int .u64 0, .int .i64 11]) ∧ Below w.heap.size w w' := by
  have hbl : Lib.bitLen 1 = 1 := by decide
  have hp5 : Lib.parseUintB 64 (⟨#[49]⟩ : ByteArray).data.toList = .ok 1 := by decide
  have ha1 : Lib.atoi (⟨#[49, 48, 50, 52]⟩ : ByteArray).data.toList = some 1024 := by decide
  go_enter Tryd.func21, Tryd.ntmps21
  go_wp2_with (first
    | (go_at_call 33; refine (cut_1p1024 _).mono ?_; rintro e w' ⟨rfl, n, rfl⟩)
    | (go_at_call 34; refine (isOdd_1 _).mono ?_; rintro e w' ⟨rfl, rfl⟩)
    | (go_at_call 35; refine (isPower_1024 _).mono ?_; rintro e w' ⟨rfl, rfl⟩)
    | (go_at_call 36; refine (pu_any ⟨#[49]⟩ 1 (by decide) hp5 _).mono ?_; rintro e w1 ⟨rfl, hb1⟩)
    | (go_at_call 37; refine (atoi_any ⟨#[49, 48, 50, 52]⟩ 1024 (by decide) ha1 _).mono ?_; rintro e w2 ⟨rfl, hb2⟩)
    | (go_at_call 38; refine (Tryd.bits_Len64 _ _ (by decide) (by decide)).mono ?_; rintro e w3 ⟨rfl, rfl⟩))
  go_ret2
  exact ⟨rfl, bt (bt (bd _ _) hb1) hb2⟩

theorem ex_5p1 : (((⟨#[53, 112, 49]⟩ : ByteArray).extract 0 1).toList == [45]) = false := by rw [Lib.extract_toList]; decide
theorem ex_2p0 : (((⟨#[50, 112, 48]⟩ : ByteArray).extract 0 1).toList == [45]) = false := by rw [Lib.extract_toList]; decide
theorem ex_1p1024 : (((⟨#[49, 112, 49, 48, 50, 52]⟩ : ByteArray).extract 0 1).toList == [45]) = false := by rw [Lib.extract_toList]; decide
set_option maxHeartbeats 400000 in
theorem parse_5p1 (w : World) : Calls Tryd.prog 5 #[.string ⟨#[53, 112, 49]⟩] w fun e w' => e = .returned (.tuple #[.int .u64 4621819117588971520, .int .i64 0]) ∧ Below w.heap.size w w' := by
  go_enter Tryd.func5, Tryd.ntmps5
  go_wp2_with (first
    | (go_at_call 20; refine (cutPrefix_no _ (by decide) ex_5p1 _).mono ?_; rintro e w' ⟨rfl, rfl⟩)
    | (go_at_call 21; refine (parseAmount_5p1 _).mono ?_; rintro e w1 ⟨rfl, hb1⟩))
  go_ret2
  exact ⟨rfl, hb1⟩
set_option maxHeartbeats 400000 in
theorem parse_2p0 (w : World) : Calls Tryd.prog 5 #[.string ⟨#[50, 112, 48]⟩] w fun e w' => e = .returned (.tuple #[.int .u64 0, .int .i64 10]) ∧ Below w.heap.size w w' := by
  go_enter Tryd.func5, Tryd.ntmps5
  go_wp2_with (first
    | (go_at_call 20; refine (cutPrefix_no _ (by decide) ex_2p0 _).mono ?_; rintro e w' ⟨rfl, rfl⟩)
    | (go_at_call 21; refine (parseAmount_2p0 _).mono ?_; rintro e w1 ⟨rfl, hb1⟩))
  go_ret2
  exact ⟨rfl, hb1⟩
set_option maxHeartbeats 400000 in
theorem parse_1p1024 (w : World) : Calls Tryd.prog 5 #[.string ⟨#[49, 112, 49, 48, 50, 52]⟩] w fun e w' => e = .returned (.tuple #[.int .u64 0, .int .i64 11]) ∧ Below w.heap.size w w' := by
  go_enter Tryd.func5, Tryd.ntmps5
  go_wp2_with (first
    | (go_at_call 20; refine (cutPrefix_no _ (by decide) ex_1p1024 _).mono ?_; rintro e w' ⟨rfl, rfl⟩)
    | (go_at_call 21; refine (parseAmount_1p1024 _).mono ?_; rintro e w1 ⟨rfl, hb1⟩))
  go_ret2
  exact ⟨rfl, hb1⟩
end Go.Proofs.YteokcgclmgleiaaDoor
