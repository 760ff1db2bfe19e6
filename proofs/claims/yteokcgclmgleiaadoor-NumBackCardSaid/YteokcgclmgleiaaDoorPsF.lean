import Derived.Test.YteokcgclmgleiaaDoorPsE
import Derived.Test.YteokcgclmgleiaaDoorTxB
namespace Go.Proofs.YteokcgclmgleiaaDoor
open Go.RowKit

theorem amt_le (s : ByteArray) : (amtP s).1 ≤ 9218868437227405312 := by
  unfold amtP
  split
  · exact Nat.le_refl _
  split
  · exact Nat.zero_le _
  split
  · exact Nat.zero_le _
  unfold cutP
  split
  · exact Nat.zero_le _
  split
  · exact Nat.zero_le _
  unfold valP
  split
  · exact Nat.zero_le _
  · exact Gn.rn_le _
theorem or_sign (a : Nat) (h : a < 9223372036854775808) : bits .or .u64 (a : Int) 9223372036854775808 = ((a + 9223372036854775808 : Nat) : Int) := by
  rw [show (9223372036854775808 : Int) = ((9223372036854775808 : Nat) : Int) from rfl, u64_or_nat _ _ (by omega) (by omega)]
  have := Nat.two_pow_add_eq_or_of_lt (i := 63) h 1
  rw [Nat.mul_one] at this
  rw [Nat.or_comm, Nat.add_comm]
  exact congrArg Int.ofNat this.symm
/-- what Parse answers -/
def bareB (s : ByteArray) : ByteArray := if minusB s then s.extract 1 s.size else s
def parseP (s : ByteArray) : Nat × Int := if s.toList = [110, 97, 110] then (9221120237041090561, 0) else if (amtP (bareB s)).2 = 0 then (if minusB s then (amtP (bareB s)).1 + 9223372036854775808 else (amtP (bareB s)).1, 0) else (0, (amtP (bareB s)).2)
set_option maxHeartbeats 400000 in
theorem parse_nan (w : World) : Calls Tryd.prog 5 #[.string ⟨#[110, 97, 110]⟩] w fun e w' => e = .returned (.tuple #[.int .u64 9221120237041090561, .int .i64 0]) ∧ w' = w := by
  go_enter Tryd.func5, Tryd.ntmps5
  go_wp2_with fail
  go_ret2
  exact ⟨rfl, rfl⟩
set_option maxHeartbeats 400000 in
set_option maxRecDepth 8000 in
theorem parse_bad (s t : ByteArray) (m : Bool) (a : Nat) (f : Int) (h1 : (s.toList == [110, 97, 110]) = false) (HC : Hid (∀ w : World, Calls Tryd.prog 20 #[.string s, .string ⟨#[45]⟩] w fun e w' => e = .returned (.tuple #[.string t, .bool m]) ∧ w' = w))
    (HA : Hid (∀ w : World, Calls Tryd.prog 21 #[.string t] w fun e w' => e = .returned (.tuple #[.int .u64 (a : Int), .int .i64 f]) ∧ Below w.heap.size w w')) (hf : (f == 0) = false) (w : World) :
    Calls Tryd.prog 5 #[.string s] w fun e w' => e = .returned (.tuple #[.int .u64 0, .int .i64 f]) ∧ Below w.heap.size w w' := by
  go_enter Tryd.func5, Tryd.ntmps5
  go_wp2_with fail
  refine (HC.out _).mono ?_
  rintro e w1 ⟨rfl, e1⟩
  subst e1
  go_wp2_with fail
  refine (HA.out _).mono ?_
  rintro e w2 ⟨rfl, b2⟩
  have B2 := Lib.hid b2
  clear b2
  go_wp2_with fail
  go_ret2
  exact ⟨rfl, B2.out⟩
set_option maxHeartbeats 400000 in
set_option maxRecDepth 8000 in
theorem parse_plus (s t : ByteArray) (a : Nat) (h1 : (s.toList == [110, 97, 110]) = false) (HC : Hid (∀ w : World, Calls Tryd.prog 20 #[.string s, .string ⟨#[45]⟩] w fun e w' => e = .returned (.tuple #[.string t, .bool false]) ∧ w' = w))
    (HA : Hid (∀ w : World, Calls Tryd.prog 21 #[.string t] w fun e w' => e = .returned (.tuple #[.int .u64 (a : Int), .int .i64 0]) ∧ Below w.heap.size w w')) (w : World) :
    Calls Tryd.prog 5 #[.string s] w fun e w' => e = .returned (.tuple #[.int .u64 (a : Int), .int .i64 0]) ∧ Below w.heap.size w w' := by
  go_enter Tryd.func5, Tryd.ntmps5
  go_wp2_with fail
  refine (HC.out _).mono ?_
  rintro e w1 ⟨rfl, e1⟩
  subst e1
  go_wp2_with fail
  refine (HA.out _).mono ?_
  rintro e w2 ⟨rfl, b2⟩
  have B2 := Lib.hid b2
  clear b2
  go_wp2_with fail
  go_ret2
  exact ⟨rfl, B2.out⟩
set_option maxHeartbeats 400000 in
set_option maxRecDepth 8000 in
theorem parse_minus (s t : ByteArray) (a b : Nat) (h1 : (s.toList == [110, 97, 110]) = false) (HC : Hid (∀ w : World, Calls Tryd.prog 20 #[.string s, .string ⟨#[45]⟩] w fun e w' => e = .returned (.tuple #[.string t, .bool true]) ∧ w' = w))
    (HA : Hid (∀ w : World, Calls Tryd.prog 21 #[.string t] w fun e w' => e = .returned (.tuple #[.int .u64 (a : Int), .int .i64 0]) ∧ Below w.heap.size w w')) (hor : bits .or .u64 (a : Int) 9223372036854775808 = (b : Int)) (w : World) :
    Calls Tryd.prog 5 #[.string s] w fun e w' => e = .returned (.tuple #[.int .u64 (b : Int), .int .i64 0]) ∧ Below w.heap.size w w' := by
  go_enter Tryd.func5, Tryd.ntmps5
  go_wp2_with fail
  refine (HC.out _).mono ?_
  rintro e w1 ⟨rfl, e1⟩
  subst e1
  go_wp2_with fail
  refine (HA.out _).mono ?_
  rintro e w2 ⟨rfl, b2⟩
  have B2 := Lib.hid b2
  clear b2
  go_wp2_with fail
  go_ret2
  exact ⟨rfl, B2.out⟩
/-- Parse at every text -/
theorem parse_any (s : ByteArray) (hm : s.size ≤ 9223372036854775807) (w : World) :
    Calls Tryd.prog 5 #[.string s] w fun e w' => e = .returned (.tuple #[.int .u64 ((parseP s).1 : Int), .int .i64 (parseP s).2]) ∧ Below w.heap.size w w' := by
  unfold parseP
  by_cases e1 : s.toList = [110, 97, 110]
  · rw [if_pos e1, list_mk e1]
    exact (parse_nan w).mono fun e w' ⟨a, b⟩ => ⟨a, by rw [b]; exact Below.refl _ _⟩
  rw [if_neg e1]
  have b1 : (s.toList == [110, 97, 110]) = false := beq_eq_false_iff_ne.mpr e1
  have hbs : (bareB s).size ≤ 9223372036854775807 := by
    unfold bareB; split
    · rw [ByteArray.size_extract]; omega
    · exact hm
  have HA := Lib.hid (parseAmount_any (bareB s) hbs)
  have HC : Hid (∀ w : World, Calls Tryd.prog 20 #[.string s, .string ⟨#[45]⟩] w fun e w' => e = .returned (.tuple #[.string (bareB s), .bool (minusB s)]) ∧ w' = w) := cutPrefix_any s
  have hle := amt_le (bareB s)
  by_cases hf : (amtP (bareB s)).2 = 0
  · rw [if_pos hf]
    rw [hf] at HA
    cases hb : minusB s
    · rw [hb] at HC
      exact parse_plus s _ _ b1 HC HA w
    · rw [hb] at HC
      exact parse_minus s _ _ _ b1 HC HA (or_sign _ (by omega)) w
  · rw [if_neg hf]
    exact parse_bad s _ _ _ _ b1 HC HA (beq_eq_false_iff_ne.mpr hf) w
end Go.Proofs.YteokcgclmgleiaaDoor
