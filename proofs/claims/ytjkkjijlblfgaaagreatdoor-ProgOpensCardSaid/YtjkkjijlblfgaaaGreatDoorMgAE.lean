import Derived.Test.YtjkkjijlblfgaaaGreatDoorRows
import Derived.Test.YtjkkjijlblfgaaaGreatDoorMgAC
import Derived.WalkKit
import Derived.WalkSpells
import Derived.WalkLawsBesides
import Derived.Deep.Draws
import Derived.Test.YtjkkjijlblfgaaaGreatDoorMgAD

section
namespace Go.Proofs.YtjkkjijlblfgaaaGreatDoor
open Go.RowKit

def fx (a : Nat) : Nat := a / 4503599627370496 % 2048
def fm (a : Nat) : Nat := a % 4503599627370496
def clsN (a : Nat) : Nat := if 9218868437227405312 < a % 9223372036854775808 then 0 else if a % 9223372036854775808 = 9218868437227405312 then 1 else if a % 9223372036854775808 = 0 then 2 else if a % 9223372036854775808 < 4503599627370496 then 3 else 4

theorem fields_x (a : Nat) (h : a < 18446744073709551616) : bits .and .u64 ((a : Int) / 4503599627370496) 2047 = (fx a : Int) := by
  have e : ((a : Int) / 4503599627370496) = ((a / 4503599627370496 : Nat) : Int) := by omega
  rw [e, show (2047 : Int) = ((2047 : Nat) : Int) from rfl, u64_and_nat _ _ (by omega) (by omega)]
  congr 1
  exact Nat.and_two_pow_sub_one_eq_mod _ 11
theorem fields_m (a : Nat) (h : a < 18446744073709551616) : bits .and .u64 (a : Int) 4503599627370495 = (fm a : Int) := by
  rw [show (4503599627370495 : Int) = ((4503599627370495 : Nat) : Int) from rfl, u64_and_nat _ _ h (by omega)]
  congr 1
  exact Nat.and_two_pow_sub_one_eq_mod _ 52

set_option maxHeartbeats 400000 in
theorem fields_any (a : Nat) (h : a < 18446744073709551616) (w : World) :
    Calls Tryz.prog 147 #[.int .u64 (a : Int)] w fun e w' => e = .returned (.tuple #[.int .u64 (fx a : Int), .int .u64 (fm a : Int)]) ∧ w' = w := by
  have hx := fields_x a h
  have hm := fields_m a h
  go_enter Tryz.func147, Tryz.ntmps147
  go_wp2
  go_ret2
  exact ⟨rfl, rfl⟩

theorem cls_cases (a : Nat) : (fx a = 2047 ∧ fm a ≠ 0 ∧ clsN a = 0) ∨ (fx a = 2047 ∧ fm a = 0 ∧ clsN a = 1) ∨ (fx a = 0 ∧ fm a = 0 ∧ clsN a = 2) ∨ (fx a = 0 ∧ fm a ≠ 0 ∧ clsN a = 3) ∨ (fx a ≠ 2047 ∧ fx a ≠ 0 ∧ clsN a = 4) := by
  unfold fx fm clsN
  by_cases h1 : 9218868437227405312 < a % 9223372036854775808
  · rw [if_pos h1]; omega
  · rw [if_neg h1]
    by_cases h2 : a % 9223372036854775808 = 9218868437227405312
    · rw [if_pos h2]; omega
    · rw [if_neg h2]
      by_cases h3 : a % 9223372036854775808 = 0
      · rw [if_pos h3]; omega
      · rw [if_neg h3]
        by_cases h4 : a % 9223372036854775808 < 4503599627370496
        · rw [if_pos h4]; omega
        · rw [if_neg h4]; omega

theorem beqN_t {x y : Nat} (h : x = y) : ((x : Int) == (y : Int)) = true := by subst h; simp
theorem beqN_f {x y : Nat} (h : x ≠ y) : ((x : Int) == (y : Int)) = false := by rw [beq_eq_false_iff_ne]; omega
theorem bneN_t {x y : Nat} (h : x ≠ y) : ((x : Int) != (y : Int)) = true := by rw [bne_iff_ne]; omega
theorem bneN_f {x y : Nat} (h : x = y) : ((x : Int) != (y : Int)) = false := by subst h; simp

set_option maxHeartbeats 400000 in
theorem class_any (a : Nat) (h : a < 18446744073709551616) (w : World) :
    Calls Tryz.prog 122 #[.int .u64 (a : Int)] w fun e w' => e = .returned (.int .i64 (clsN a : Int)) ∧ w' = w := by
  rcases cls_cases a with ⟨h1, h2, h3⟩ | ⟨h1, h2, h3⟩ | ⟨h1, h2, h3⟩ | ⟨h1, h2, h3⟩ | ⟨h1, h2, h3⟩
  all_goals rw [h3]
  · have b1 := beqN_t h1
    have b2 := bneN_t h2
    clear h1 h2 h3
    go_enter Tryz.func122, Tryz.ntmps122
    go_wp2_with (go_at_call 147; refine (fields_any a h _).mono ?_; rintro e w' ⟨rfl, rfl⟩)
    go_ret
    exact ⟨rfl, rfl⟩
  · have b1 := beqN_t h1
    have b2 := bneN_f h2
    clear h1 h2 h3
    go_enter Tryz.func122, Tryz.ntmps122
    go_wp2_with (go_at_call 147; refine (fields_any a h _).mono ?_; rintro e w' ⟨rfl, rfl⟩)
    go_ret
    exact ⟨rfl, rfl⟩
  · have b1 := beqN_t h1
    have b2 := beqN_t h2
    have b3 : ((fx a : Int) == 2047) = false := beqN_f (y := 2047) (by omega)
    clear h1 h2 h3
    go_enter Tryz.func122, Tryz.ntmps122
    go_wp2_with (go_at_call 147; refine (fields_any a h _).mono ?_; rintro e w' ⟨rfl, rfl⟩)
    go_ret
    exact ⟨rfl, rfl⟩
  · have b1 := beqN_t h1
    have b2 := beqN_f h2
    have b3 : ((fx a : Int) == 2047) = false := beqN_f (y := 2047) (by omega)
    clear h1 h2 h3
    go_enter Tryz.func122, Tryz.ntmps122
    go_wp2_with (go_at_call 147; refine (fields_any a h _).mono ?_; rintro e w' ⟨rfl, rfl⟩)
    go_ret
    exact ⟨rfl, rfl⟩
  · have b1 := beqN_f h1
    have b2 := beqN_f h2
    clear h1 h2 h3
    go_enter Tryz.func122, Tryz.ntmps122
    go_wp2_with (go_at_call 147; refine (fields_any a h _).mono ?_; rintro e w' ⟨rfl, rfl⟩)
    go_ret
    exact ⟨rfl, rfl⟩

theorem cls_nan (a : Nat) : clsN a = 0 ↔ 9218868437227405312 < a % 9223372036854775808 := by
  unfold clsN
  by_cases h1 : 9218868437227405312 < a % 9223372036854775808
  · simp [h1]
  · simp only [h1, if_false, iff_false]
    repeat (split <;> first | omega | skip)

set_option maxHeartbeats 400000 in
theorem canon_any (a : Nat) (h : a < 18446744073709551616) (w : World) :
    Calls Tryz.prog 97 #[.int .u64 (a : Int)] w fun e w' => e = .returned (.int .u64 (Gn.canonW a : Int)) ∧ w' = w := by
  unfold Gn.canonW
  by_cases hn : 9218868437227405312 < a % 9223372036854775808
  · rw [if_pos hn]
    have b : ((clsN a : Int) == 0) = true := beqN_t (y := 0) ((cls_nan a).2 hn)
    clear hn
    go_enter Tryz.func97, Tryz.ntmps97
    go_wp2_with (go_at_call 122; refine (class_any a h _).mono ?_; rintro e w' ⟨rfl, rfl⟩)
    go_ret
    exact ⟨rfl, rfl⟩
  · rw [if_neg hn]
    have b : ((clsN a : Int) == 0) = false := beqN_f (y := 0) (fun e => hn ((cls_nan a).1 e))
    clear hn
    go_enter Tryz.func97, Tryz.ntmps97
    go_wp2_with (go_at_call 122; refine (class_any a h _).mono ?_; rintro e w' ⟨rfl, rfl⟩)
    go_ret
    exact ⟨rfl, rfl⟩

theorem flip_xor (a : Nat) (h : a < 18446744073709551616) : bits .xor .u64 (a : Int) 9223372036854775808 = (Gn.flipW a : Int) := by
  rw [show (9223372036854775808 : Int) = ((9223372036854775808 : Nat) : Int) from rfl, u64_xor_nat _ _ h (by omega)]
  congr 1
  unfold Gn.flipW
  by_cases h1 : a < 9223372036854775808
  · rw [if_pos h1]
    have := Nat.two_pow_add_eq_or_of_lt (i := 63) h1 1
    have e : a ^^^ 9223372036854775808 = a ||| 9223372036854775808 := by
      apply Nat.eq_of_testBit_eq; intro i
      rw [Nat.testBit_xor, Nat.testBit_or, show (9223372036854775808 : Nat) = 2 ^ 63 from rfl, Nat.testBit_two_pow]
      by_cases hi : 63 = i
      · subst hi; rw [Nat.testBit_lt_two_pow h1]; rfl
      · simp [hi]
    rw [e, Nat.or_comm]
    have h2 : 2 ^ 63 * 1 + a = 2 ^ 63 * 1 ||| a := this
    rw [Nat.mul_one] at h2
    rw [show (9223372036854775808 : Nat) = 2 ^ 63 from rfl, ← h2, Nat.add_comm]
  · rw [if_neg h1]
    obtain ⟨c, rfl, hc⟩ : ∃ c, a = 9223372036854775808 + c ∧ c < 9223372036854775808 := ⟨a - 9223372036854775808, by omega, by omega⟩
    have := Nat.two_pow_add_eq_or_of_lt (i := 63) hc 1
    rw [Nat.mul_one] at this
    rw [Nat.add_sub_cancel_left]
    have e : 9223372036854775808 + c = 2 ^ 63 ||| c := this
    rw [e]
    apply Nat.eq_of_testBit_eq; intro i
    rw [Nat.testBit_xor, Nat.testBit_or, show (9223372036854775808 : Nat) = 2 ^ 63 from rfl, Nat.testBit_two_pow]
    by_cases hi : 63 = i
    · subst hi; rw [Nat.testBit_lt_two_pow hc]; rfl
    · simp [hi]

theorem abs_andNot (a : Nat) (h : a < 18446744073709551616) : bits .andNot .u64 (a : Int) 9223372036854775808 = ((a % 9223372036854775808 : Nat) : Int) := by
  rw [show (9223372036854775808 : Int) = ((9223372036854775808 : Nat) : Int) from rfl, u64_andNot_nat _ _ h (by omega)]
  congr 1
  exact Nat.and_two_pow_sub_one_eq_mod _ 63

def lowW (a : Nat) : Nat := a % 9223372036854775808
theorem frombits_run (a : Nat) (w : World) : (callFunc 173 #[.int .u64 (a : Int)]).run Tryz.prog w = .ok (.value (.float .f64 a)) w := by
  rw [run_callFunc_extern (e := Extern.MathFloatBits.float64frombits) Tryz.func173 (by kernel_rfl) (by kernel_rfl) (by kernel_rfl) (by kernel_rfl)]
  rfl
theorem tobits_run (a : Nat) (w : World) : (callFunc 160 #[.float .f64 a]).run Tryz.prog w = .ok (.value (.int .u64 (a : Int))) w := by
  rw [run_callFunc_extern (e := Extern.MathFloatBits.float64bits) Tryz.func160 (by kernel_rfl) (by kernel_rfl) (by kernel_rfl) (by kernel_rfl)]
  rfl

set_option maxHeartbeats 400000 in
theorem bitsOf_any (a : Nat) (h : a < 18446744073709551616) (w : World) :
    Calls Tryz.prog 145 #[.float .f64 a] w fun e w' => e = .returned (.int .u64 (Gn.canonW a : Int)) ∧ w' = w := by
  have hr := tobits_run a
  go_enter Tryz.func145, Tryz.ntmps145
  go_wp2_with (go_at_call 97; refine (canon_any a h _).mono ?_; rintro e w' ⟨rfl, rfl⟩)
  go_ret
  exact ⟨rfl, rfl⟩
end Go.Proofs.YtjkkjijlblfgaaaGreatDoor
end

section
namespace Go.Proofs.YtjkkjijlblfgaaaGreatDoor
open Go.RowKit

/-- the bits that the tape gives a NaN -/
def nanN (w : World) (x y : Nat) : Nat := (Question.nanBits .f64 x y).cut (w.tape w.drawn (.nanBits .f64 x y))
theorem nanN_lt (w : World) (x y : Nat) : nanN w x y < 18446744073709551616 := by
  unfold nanN Question.cut
  dsimp only
  generalize w.tape w.drawn (.nanBits .f64 x y) = t
  omega
theorem nanN_canon (w : World) (x y : Nat) : Gn.canonW (nanN w x y) = 9221120237041090561 := by
  unfold Gn.canonW
  rw [if_pos]
  unfold nanN Question.cut
  dsimp only
  generalize w.tape w.drawn (.nanBits .f64 x y) = t
  have h1 : t / 2 % (2 ^ 52 - 1) < 4503599627370495 := Nat.mod_lt _ (by decide)
  have h2 : t % 2 < 2 := Nat.mod_lt _ (by decide)
  generalize t / 2 % (2 ^ 52 - 1) = q at *
  generalize t % 2 = b at *
  omega
theorem run_float_none {P : Program} (w : World) (op : BinOp) (t : TypeId) (x y : Nat) (ho : op = .add ∨ op = .mul ∨ op = .quo) (h : floatBits op .f64 x y = none) : (binOp op t (.float .f64 x) (.float .f64 y)).run P w = .ok (.float .f64 (nanN w x y)) w.drew := by
  unfold floatBits at h
  rcases ho with rfl | rfl | rfl <;> simp only at h <;> simp [binOp, Op.floatArith, h, nanN, Question.forced]

def ltW (a b : Nat) : Bool := Ieee.double.order a b == some .lt
def eqW (a b : Nat) : Bool := Ieee.double.order a b == some .eq
def rankW (a : Nat) : Nat := if Gn.canonW a < 9223372036854775808 then Gn.canonW a + 9223372036854775808 else 18446744073709551615 - Gn.canonW a
theorem top_and (c : Nat) (h : c < 18446744073709551616) : bits .and .u64 (c : Int) 9223372036854775808 = if c < 9223372036854775808 then 0 else 9223372036854775808 := by
  rw [show (9223372036854775808 : Int) = ((9223372036854775808 : Nat) : Int) from rfl, u64_and_nat _ _ h (by omega)]
  by_cases h1 : c < 9223372036854775808
  · have e : c &&& 9223372036854775808 = 0 := by
      apply Nat.eq_of_testBit_eq; intro i
      rw [Nat.testBit_and, show (9223372036854775808 : Nat) = 2 ^ 63 from rfl, Nat.testBit_two_pow, Nat.zero_testBit]
      by_cases hi : 63 = i
      · subst hi; rw [Nat.testBit_lt_two_pow h1]; rfl
      · simp [hi]
    rw [e, if_pos h1]; rfl
  · obtain ⟨r, rfl, hr⟩ : ∃ r, c = 9223372036854775808 + r ∧ r < 9223372036854775808 := ⟨c - 9223372036854775808, by omega, by omega⟩
    have := Nat.two_pow_add_eq_or_of_lt (i := 63) hr 1
    rw [Nat.mul_one] at this
    have e0 : 9223372036854775808 + r = 2 ^ 63 ||| r := this
    have e : (9223372036854775808 + r) &&& 9223372036854775808 = 9223372036854775808 := by
      rw [e0]
      apply Nat.eq_of_testBit_eq; intro i
      rw [Nat.testBit_and, Nat.testBit_or, show (9223372036854775808 : Nat) = 2 ^ 63 from rfl, Nat.testBit_two_pow]
      by_cases hi : 63 = i
      · subst hi; simp
      · simp [hi]
    rw [e, if_neg h1]
theorem top_or (c : Nat) (h : c < 9223372036854775808) : bits .or .u64 (c : Int) 9223372036854775808 = ((c + 9223372036854775808 : Nat) : Int) := by
  rw [show (9223372036854775808 : Int) = ((9223372036854775808 : Nat) : Int) from rfl, u64_or_nat _ _ (by omega) (by omega)]
  congr 1
  have := Nat.two_pow_add_eq_or_of_lt (i := 63) h 1
  rw [Nat.mul_one] at this
  rw [Nat.or_comm, show (9223372036854775808 : Nat) = 2 ^ 63 from rfl, ← this, Nat.add_comm]

theorem not_u64 (c : Nat) (h : c < 18446744073709551616) : bits .xor .u64 IntKind.u64.max (c : Int) = ((18446744073709551615 - c : Nat) : Int) := by
  show IntKind.u64.wrap ((BitVec.ofInt 64 18446744073709551615 ^^^ BitVec.ofInt 64 (c : Int)).toNat : Int) = _
  have h1 : BitVec.ofInt 64 18446744073709551615 = BitVec.allOnes 64 := by decide
  rw [h1, BitVec.allOnes_xor, BitVec.toNat_not, ofInt_u64 c h, IntKind.wrap_u64]
  omega

end Go.Proofs.YtjkkjijlblfgaaaGreatDoor
end

section
namespace Go.Proofs.YtjkkjijlblfgaaaGreatDoor
open Go.RowKit

def cmpW (x y : Nat) : Int := if x < y then -1 else if y < x then 1 else 0
def ordW (a b : Nat) : Int := cmpW (rankW a) (rankW b)

def anyN (a b : Nat) : Bool := clsN a == 0 || clsN b == 0
def minW (a b : Nat) : Nat := if anyN a b then 9221120237041090561 else if rankW b < rankW a then b else a
def maxW (a b : Nat) : Nat := if anyN a b then 9221120237041090561 else if rankW a < rankW b then b else a
theorem ord_pos {a b : Nat} (h : rankW b < rankW a) : 0 < ordW a b := by unfold ordW cmpW; rw [if_neg (by omega), if_pos h]; omega
theorem ord_pos' {a b : Nat} (h : ¬ rankW b < rankW a) : ¬ 0 < ordW a b := by unfold ordW cmpW; rw [if_neg h]; split <;> omega
theorem ord_neg {a b : Nat} (h : rankW a < rankW b) : ordW a b < 0 := by unfold ordW cmpW; rw [if_pos h]; omega
theorem ord_neg' {a b : Nat} (h : ¬ rankW a < rankW b) : ¬ ordW a b < 0 := by unfold ordW cmpW; rw [if_neg h]; split <;> omega
def signq : Question := .extern "math.Floor,Ceil,Trunc,RoundToEven.signallingNaN kept" 2
theorem integral_run (a : Nat) : Extern.MathFloor.toIntegral "math.archFloor" .down #[.float .f64 a] = (match FloatKind.f64.decode a with
    | .nan s t => if FloatKind.f64.format.quiet t = t then pure (.float .f64 a) else do
      let kept ← choose signq
      pure (.float .f64 (if kept == 1 then a else FloatKind.f64.encode (.nan s (FloatKind.f64.format.quiet t))))
    | d => pure (.float .f64 (FloatKind.f64.encode (d.integral .down)))) := rfl
theorem nan_canon (a : Nat) (ha : a < 18446744073709551616) (h : Gn.IsNan (Ieee.double.read a)) : Gn.canonW a = 9221120237041090561 := by
  obtain ⟨s, t, hd⟩ := h
  rcases Gn.read_neg a ha with ⟨_, _, _, e⟩ | ⟨ok, _⟩
  · exact e
  · rw [hd] at ok; exact ok.elim
def floorW (a : Nat) : Nat := if 9218868437227405312 < a % 9223372036854775808 then 9221120237041090561 else Gn.flrD a
end Go.Proofs.YtjkkjijlblfgaaaGreatDoor
end

section
namespace Go.Proofs.YtjkkjijlblfgaaaGreatDoor
open Go.RowKit

theorem nan_read (a : Nat) (ha : a < 18446744073709551616) (h : 9218868437227405312 < a % 9223372036854775808) : Gn.IsNan (Ieee.double.read a) := by
  obtain ⟨s, r, hr, rfl⟩ := Gn.wd_cases a ha
  rw [Gn.wd_mod s r hr] at h
  rw [Gn.read_wd s r hr]
  exact ⟨_, _, Gn.rd_nan s r h⟩
theorem ok_read (a : Nat) (ha : a < 18446744073709551616) (h : ¬ 9218868437227405312 < a % 9223372036854775808) : Gn.okD (Ieee.double.read a) := by
  obtain ⟨s, r, hr, rfl⟩ := Gn.wd_cases a ha
  rw [Gn.wd_mod s r hr] at h
  rw [Gn.read_wd s r hr]
  exact Gn.rd_ok s r h

def ofW (n : Int) : Nat := floatOfInt .f64 n
theorem ofW_lt (n : Int) : ofW n < 18446744073709551616 := Ieee.double.write_lt (.number (n < 0) n.natAbs 0)
theorem ofW_canon (n : Int) : Gn.canonW (ofW n) = ofW n := Gn.canon_write (d := .number (n < 0) n.natAbs 0) trivial
end Go.Proofs.YtjkkjijlblfgaaaGreatDoor
end

section
namespace Go.Proofs.YtjkkjijlblfgaaaGreatDoor
open Go.RowKit

def intR (a : Nat) : Value := .tuple #[.int .i64 (if Gn.intOk a then Gn.intV a else 0), .int .i64 (if Gn.intOk a then 0 else 11)]
theorem int_yes {a : Nat} (h : Gn.intOk a = true) : intR a = .tuple #[.int .i64 (Gn.intV a), .int .i64 0] := by unfold intR; rw [if_pos h, if_pos h]
theorem int_no {a : Nat} (h : Gn.intOk a = false) : intR a = .tuple #[.int .i64 0, .int .i64 11] := by unfold intR; rw [h]; rfl

end Go.Proofs.YtjkkjijlblfgaaaGreatDoor
end
