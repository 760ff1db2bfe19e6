import Derived.Test.YteokcgclmgleiaaDoorWalkH
namespace Go.Proofs.YteokcgclmgleiaaDoor
open Go.RowKit

set_option maxHeartbeats 400000 in
theorem tz_any (x j z : Nat) (w : World) (hx : ((x : Int) == 0) = false)
    (hj : IntKind.u64.wrap (bits .and .u64 (x : Int) (IntKind.u64.wrap (-(x : Int))) * 285870213051353865) / 288230376151711744 = (j : Int)) (hl : j < 64)
    (hz : z < 256) (hc : w.cell? ⟨1, j, none⟩ = some (.int .u8 (z : Int))) :
    Calls Tryd.prog 60 #[.int .u64 (x : Int)] w fun e w' => e = .returned (.int .i64 (z : Int)) ∧ w' = w := by
  go_enter Tryd.func60, Tryd.ntmps60
  go_wp2
  go_ret
  exact ⟨rfl, rfl⟩
/-- what the one text's walk reads of the table of math/bits: the place of 2^50 -/
def tabPlace : Nat := (IntKind.u64.wrap (bits .and .u64 5629499534213120 (IntKind.u64.wrap (-5629499534213120)) * 285870213051353865) / 288230376151711744).toNat
def TabC (w : World) : Prop := w.cell? ⟨1, tabPlace, none⟩ = some (.int .u8 50)
theorem tz_5 (w : World) (h : TabC w) : Calls Tryd.prog 60 #[.int .u64 5629499534213120] w fun e w' => e = .returned (.int .i64 50) ∧ w' = w :=
  tz_any 5629499534213120 tabPlace 50 w (by decide) (by decide) (by decide) (by decide) h

set_option maxHeartbeats 400000 in
theorem oddAndPower_5 (w : World) (h : TabC w) : Calls Tryd.prog 40 #[.int .u64 4621819117588971520] w fun e w' => e = .returned (.tuple #[.int .u64 5, .int .i64 1]) ∧ w' = w := by
  have e1 : (fx 4621819117588971520 : Int) = 1026 := by decide
  have e2 : (fm 4621819117588971520 : Int) = 1125899906842624 := by decide
  have e3 : bits .or .u64 1125899906842624 4503599627370496 = 5629499534213120 := by decide
  go_enter Tryd.func40, Tryd.ntmps40
  go_wp2_with (first
    | (go_at_call 29; refine (fields_any 4621819117588971520 (by decide) _).mono ?_; rintro e w' ⟨rfl, rfl⟩)
    | (go_at_call 60; refine (tz_5 _ h).mono ?_; rintro e w' ⟨rfl, rfl⟩))
  go_ret2
  exact ⟨rfl, rfl⟩

theorem dd5 : (⟨(Lib.decDigits 5).toArray⟩ : ByteArray) = ⟨#[53]⟩ := by rw [Lib.decDigits_one (by decide)]; rfl
theorem dd1 : (⟨(Lib.decDigits 1).toArray⟩ : ByteArray) = ⟨#[49]⟩ := by rw [Lib.decDigits_one (by decide)]; rfl
theorem small_5 (w : World) : Calls Tryd.prog 77 #[.int .i64 5] w fun e w' => e = .returned (.string ⟨#[53]⟩) ∧ w' = w := by
  have := Tryd.internal_strconv_small 5 (by decide) w
  rw [dd5] at this
  exact this
theorem itoa_1 (w : World) : Calls Tryd.prog 42 #[.int .i64 1] w fun e w' => e = .returned (.string ⟨#[49]⟩) ∧ w' = w := by
  have := Tryd.strconv_Itoa_small 1 (by decide) w
  rw [dd1] at this
  exact this
set_option maxHeartbeats 400000 in
theorem formatUint_5 (w : World) : Calls Tryd.prog 41 #[.int .u64 5, .int .i64 10] w fun e w' => e = .returned (.string ⟨#[53]⟩) ∧ w' = w := by
  go_enter Tryd.func41, Tryd.ntmps41
  go_wp2_with (first
    | (go_at_call 77; refine (small_5 _).mono ?_; rintro e w' ⟨rfl, rfl⟩)
    | go_in)
  go_ret
  exact ⟨rfl, rfl⟩
set_option maxHeartbeats 400000 in
theorem amountText_5 (w : World) (h : TabC w) : Calls Tryd.prog 22 #[.int .u64 4621819117588971520] w fun e w' => e = .returned (.string ⟨#[53, 112, 49]⟩) ∧ w' = w := by
  have e1 : (clsN 4621819117588971520 : Int) = 4 := by decide
  go_enter Tryd.func22, Tryd.ntmps22
  go_wp2_with (first
    | (go_at_call 18; refine (class_any 4621819117588971520 (by decide) _).mono ?_; rintro e w' ⟨rfl, rfl⟩)
    | (go_at_call 40; refine (oddAndPower_5 _ h).mono ?_; rintro e w' ⟨rfl, rfl⟩)
    | (go_at_call 41; refine (formatUint_5 _).mono ?_; rintro e w' ⟨rfl, rfl⟩)
    | (go_at_call 42; refine (itoa_1 _).mono ?_; rintro e w' ⟨rfl, rfl⟩))
  go_ret
  exact ⟨rfl, rfl⟩
set_option maxHeartbeats 400000 in
theorem text_5 (w : World) (h : TabC w) : Calls Tryd.prog 6 #[.int .u64 4621819117588971520] w fun e w' => e = .returned (.string ⟨#[53, 112, 49]⟩) ∧ w' = w := by
  have e1 : (Gn.canonW 4621819117588971520 : Int) = 4621819117588971520 := by decide
  have e2 : bits .and .u64 4621819117588971520 9223372036854775808 = 0 := by decide
  go_enter Tryd.func6, Tryd.ntmps6
  go_wp2_with (first
    | (go_at_call 8; refine (canon_any 4621819117588971520 (by decide) _).mono ?_; rintro e w' ⟨rfl, rfl⟩)
    | (go_at_call 22; refine (amountText_5 _ h).mono ?_; rintro e w' ⟨rfl, rfl⟩))
  go_ret
  exact ⟨rfl, rfl⟩
end Go.Proofs.YteokcgclmgleiaaDoor
