import Derived.Test.YtkfnedhllfdghaaGreatDoorMgAG
import Derived.Test.YtkfnedhllfdghaaGreatDoorMgAA

section
namespace Go.Proofs.YtkfnedhllfdghaaGreatDoor
set_option maxRecDepth 20000
open Go.RowKit

theorem below_drewN' {B : Nat} {a w : World} (h : Below B a w) (n : Nat) : Below B a (w.drewN n) := h.trans ⟨rfl, rfl, rfl, Nat.le_refl _, fun _ _ => rfl⟩

theorem bt {a b c : World} (h : Below a.heap.size a b) (k : Below b.heap.size b c) : Below a.heap.size a c := h.trans (k.mono h.size)
theorem bd (w : World) (n : Nat) : Below w.heap.size w (w.drewN n) := below_drewN' (Below.refl _ _) n

theorem ex_5p1 : (((⟨#[53, 112, 49]⟩ : ByteArray).extract 0 1).toList == [45]) = false := by rw [Lib.extract_toList]; decide
theorem ex_2p0 : (((⟨#[50, 112, 48]⟩ : ByteArray).extract 0 1).toList == [45]) = false := by rw [Lib.extract_toList]; decide
theorem ex_1p1024 : (((⟨#[49, 112, 49, 48, 50, 52]⟩ : ByteArray).extract 0 1).toList == [45]) = false := by rw [Lib.extract_toList]; decide
end Go.Proofs.YtkfnedhllfdghaaGreatDoor
end

section
namespace Go.Proofs.YtkfnedhllfdghaaGreatDoor
set_option maxRecDepth 20000
open Go.RowKit

set_option maxHeartbeats 400000 in
theorem tz_any (x j z : Nat) (w : World) (hx : ((x : Int) == 0) = false)
    (hj : IntKind.u64.wrap (bits .and .u64 (x : Int) (IntKind.u64.wrap (-(x : Int))) * 285870213051353865) / 288230376151711744 = (j : Int)) (hl : j < 64)
    (hz : z < 256) (hc : w.cell? ⟨2, j, none⟩ = some (.int .u8 (z : Int))) :
    Calls Tryz.prog 310 #[.int .u64 (x : Int)] w fun e w' => e = .returned (.int .i64 (z : Int)) ∧ w' = w := by
  go_enter Tryz.func310, Tryz.ntmps310
  go_wp2
  go_ret
  exact ⟨rfl, rfl⟩
/-- what the one text's walk reads of the table of math/bits: the place of 2^50 -/
def tabPlace : Nat := (IntKind.u64.wrap (bits .and .u64 5629499534213120 (IntKind.u64.wrap (-5629499534213120)) * 285870213051353865) / 288230376151711744).toNat
def TabC (w : World) : Prop := w.cell? ⟨2, tabPlace, none⟩ = some (.int .u8 50)
theorem tz_5 (w : World) (h : TabC w) : Calls Tryz.prog 310 #[.int .u64 5629499534213120] w fun e w' => e = .returned (.int .i64 50) ∧ w' = w :=
  tz_any 5629499534213120 tabPlace 50 w (by decide) (by decide) (by decide) (by decide) h

set_option maxHeartbeats 400000 in
theorem oddAndPower_5 (w : World) (h : TabC w) : Calls Tryz.prog 300 #[.int .u64 4621819117588971520] w fun e w' => e = .returned (.tuple #[.int .u64 5, .int .i64 1]) ∧ w' = w := by
  have e1 : (fx 4621819117588971520 : Int) = 1026 := by decide
  have e2 : (fm 4621819117588971520 : Int) = 1125899906842624 := by decide
  have e3 : bits .or .u64 1125899906842624 4503599627370496 = 5629499534213120 := by decide
  go_enter Tryz.func300, Tryz.ntmps300
  go_wp2_with (first
    | (go_at_call 291; refine (fields_any 4621819117588971520 (by decide) _).mono ?_; rintro e w' ⟨rfl, rfl⟩)
    | (go_at_call 310; refine (tz_5 _ h).mono ?_; rintro e w' ⟨rfl, rfl⟩))
  go_ret2
  exact ⟨rfl, rfl⟩

theorem dd5 : (⟨(Lib.decDigits 5).toArray⟩ : ByteArray) = ⟨#[53]⟩ := by rw [Lib.decDigits_one (by decide)]; rfl
theorem dd1 : (⟨(Lib.decDigits 1).toArray⟩ : ByteArray) = ⟨#[49]⟩ := by rw [Lib.decDigits_one (by decide)]; rfl
theorem small_5 (w : World) : Calls Tryz.prog 316 #[.int .i64 5] w fun e w' => e = .returned (.string ⟨#[53]⟩) ∧ w' = w := by
  have := Tryz.internal_strconv_small 5 (by decide) w
  rw [dd5] at this
  exact this
theorem itoa_1 (w : World) : Calls Tryz.prog 302 #[.int .i64 1] w fun e w' => e = .returned (.string ⟨#[49]⟩) ∧ w' = w := by
  have := Tryz.strconv_Itoa_small 1 (by decide) w
  rw [dd1] at this
  exact this
set_option maxHeartbeats 400000 in
theorem formatUint_5 (w : World) : Calls Tryz.prog 301 #[.int .u64 5, .int .i64 10] w fun e w' => e = .returned (.string ⟨#[53]⟩) ∧ w' = w := by
  go_enter Tryz.func301, Tryz.ntmps301
  go_wp2_with (first
    | (go_at_call 316; refine (small_5 _).mono ?_; rintro e w' ⟨rfl, rfl⟩)
    | go_in)
  go_ret
  exact ⟨rfl, rfl⟩
set_option maxHeartbeats 400000 in
theorem amountText_5 (w : World) (h : TabC w) : Calls Tryz.prog 292 #[.int .u64 4621819117588971520] w fun e w' => e = .returned (.string ⟨#[53, 112, 49]⟩) ∧ w' = w := by
  have e1 : (clsN 4621819117588971520 : Int) = 4 := by decide
  go_enter Tryz.func292, Tryz.ntmps292
  go_wp2_with (first
    | (go_at_call 269; refine (class_any 4621819117588971520 (by decide) _).mono ?_; rintro e w' ⟨rfl, rfl⟩)
    | (go_at_call 300; refine (oddAndPower_5 _ h).mono ?_; rintro e w' ⟨rfl, rfl⟩)
    | (go_at_call 301; refine (formatUint_5 _).mono ?_; rintro e w' ⟨rfl, rfl⟩)
    | (go_at_call 302; refine (itoa_1 _).mono ?_; rintro e w' ⟨rfl, rfl⟩))
  go_ret
  exact ⟨rfl, rfl⟩
set_option maxHeartbeats 400000 in
theorem text_5 (w : World) (h : TabC w) : Calls Tryz.prog 275 #[.int .u64 4621819117588971520] w fun e w' => e = .returned (.string ⟨#[53, 112, 49]⟩) ∧ w' = w := by
  have e1 : (Gn.canonW 4621819117588971520 : Int) = 4621819117588971520 := by decide
  have e2 : bits .and .u64 4621819117588971520 9223372036854775808 = 0 := by decide
  go_enter Tryz.func275, Tryz.ntmps275
  go_wp2_with (first
    | (go_at_call 250; refine (canon_any 4621819117588971520 (by decide) _).mono ?_; rintro e w' ⟨rfl, rfl⟩)
    | (go_at_call 292; refine (amountText_5 _ h).mono ?_; rintro e w' ⟨rfl, rfl⟩))
  go_ret
  exact ⟨rfl, rfl⟩
end Go.Proofs.YtkfnedhllfdghaaGreatDoor
end
