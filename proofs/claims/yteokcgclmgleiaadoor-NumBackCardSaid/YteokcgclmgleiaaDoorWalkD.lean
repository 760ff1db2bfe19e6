import Derived.Test.YteokcgclmgleiaaDoorWalkC
namespace Go.Proofs.YteokcgclmgleiaaDoor
open Go.RowKit

theorem floor_calls_ok (a : Nat) (h : Gn.okD (Ieee.double.read a)) (w : World) :
    Calls Tryd.prog 28 #[.float .f64 a] w fun e w' => e = .returned (.float .f64 (Gn.flrD a)) ∧ w' = w := by
  have hr := archFloor_ok a h
  go_enter Tryd.func28, Tryd.ntmps28
  go_wp2
  go_ret
  exact ⟨rfl, rfl⟩
theorem floor_calls_nan (a : Nat) (ha : a < 18446744073709551616) (h : Gn.IsNan (Ieee.double.read a)) (w : World) :
    Calls Tryd.prog 28 #[.float .f64 a] w fun e w' => ∃ y, e = .returned (.float .f64 y) ∧ y < 18446744073709551616 ∧ Gn.canonW y = 9221120237041090561 ∧ ∃ n, w' = w.drewN n := by
  have ca := nan_canon a ha h
  rcases archFloor_nan a ha h with hr | ⟨z, hz, cz, hr⟩
  · clear h
    go_enter Tryd.func28, Tryd.ntmps28
    go_wp2
    go_ret
    exact ⟨a, rfl, ha, ca, 0, rfl⟩
  · clear h
    go_enter Tryd.func28, Tryd.ntmps28
    go_wp2
    go_ret
    exact ⟨_, rfl, hz _, cz _, 1, rfl⟩

theorem nan_read (a : Nat) (ha : a < 18446744073709551616) (h : 9218868437227405312 < a % 9223372036854775808) : Gn.IsNan (Ieee.double.read a) := by
  obtain ⟨s, r, hr, rfl⟩ := Gn.wd_cases a ha
  rw [Gn.wd_mod s r hr] at h
  rw [Gn.read_wd s r hr]
  exact ⟨_, _, Gn.rd_nan s r h⟩
theorem ok_read (a : Nat) (ha : a < 18446744073709551616) (h : ¬ 9218868437227405312 < a % 9223372036854775808) : Gn.okD (Ieee.double.read a) := by
  obtain ⟨s, r, hr, rfl⟩ := Gn.wd_cases a ha
  rw [Gn.wd_mod s r hr] at h
  rw [Gn.read_wd s r hr]
  exact Gn.rd_ok s r h

set_option maxHeartbeats 400000 in
theorem floor_any (a : Nat) (ha : a < 18446744073709551616) (w : World) :
    Calls Tryd.prog 17 #[.int .u64 (a : Int)] w fun e w' => e = .returned (.int .u64 (floorW a : Int)) ∧ ∃ n, w' = w.drewN n := by
  unfold floorW
  by_cases hn : 9218868437227405312 < a % 9223372036854775808
  · rw [if_pos hn]
    have hd := nan_read a ha hn
    clear hn
    go_enter Tryd.func17, Tryd.ntmps17
    go_wp2_with (first | (go_at_call 26; refine (floatOf_any _ _).mono ?_; rintro e w' ⟨rfl, rfl⟩) | (go_at_call 28; refine (floor_calls_nan a ha hd _).mono ?_; rintro e w' ⟨y, rfl, hy, cy, n, rfl⟩) | (go_at_call 25; refine (bitsOf_any _ (by assumption) _).mono ?_; rintro e w' ⟨rfl, rfl⟩))
    go_ret
    exact ⟨rfl, _, rfl⟩
  · rw [if_neg hn]
    have hd := ok_read a ha hn
    have hc := Gn.flr_canon a hd
    have hl := Gn.flr_lt a
    clear hn
    go_enter Tryd.func17, Tryd.ntmps17
    go_wp2_with (first | (go_at_call 26; refine (floatOf_any _ _).mono ?_; rintro e w' ⟨rfl, rfl⟩) | (go_at_call 28; refine (floor_calls_ok a hd _).mono ?_; rintro e w' ⟨rfl, rfl⟩) | (go_at_call 25; refine (bitsOf_any _ (by assumption) _).mono ?_; rintro e w' ⟨rfl, rfl⟩))
    go_ret
    exact ⟨rfl, 0, rfl⟩

def ofW (n : Int) : Nat := floatOfInt .f64 n
theorem ofW_lt (n : Int) : ofW n < 18446744073709551616 := Ieee.double.write_lt (.number (n < 0) n.natAbs 0)
theorem ofW_canon (n : Int) : Gn.canonW (ofW n) = ofW n := Gn.canon_write (d := .number (n < 0) n.natAbs 0) trivial
set_option maxHeartbeats 400000 in
theorem of_any (n : Int) (w : World) :
    Calls Tryd.prog 46 #[.int .i64 n] w fun e w' => e = .returned (.int .u64 (ofW n : Int)) ∧ w' = w := by
  have hc := ofW_canon n
  have hl := ofW_lt n
  unfold ofW at *
  go_enter Tryd.func46, Tryd.ntmps46
  go_wp2_with (go_at_call 25; refine (bitsOf_any _ (by assumption) _).mono ?_; rintro e w' ⟨rfl, rfl⟩)
  go_ret
  exact ⟨rfl, rfl⟩
end Go.Proofs.YteokcgclmgleiaaDoor
