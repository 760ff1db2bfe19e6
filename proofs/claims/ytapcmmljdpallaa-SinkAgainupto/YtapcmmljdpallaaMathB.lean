import Derived.Test.YtapcmmljdpallaaMathA
namespace Gn
open Ieee

/-- what a word of sign s and rung r stands for -/
def rd (s : Bool) (r : Nat) : Datum :=
  if r < 4503599627370496 then .number s r (-1074)
  else if r < 9218868437227405312 then .number s (4503599627370496 + r % 4503599627370496) (-1074 + (r / 4503599627370496 - 1 : Nat))
  else if r = 9218868437227405312 then .infinity s else .nan s (r - 9218868437227405312)

def wd (s : Bool) (r : Nat) : Nat := if s then 9223372036854775808 + r else r

theorem word_wd (s : Bool) (r : Nat) : double.word s r = wd s r := by simp [Format.word, wd, sw]

theorem wd_cases (a : Nat) (h : a < 18446744073709551616) : ∃ s r, r < 9223372036854775808 ∧ a = wd s r := by
  by_cases h1 : a < 9223372036854775808
  · exact ⟨false, a, h1, rfl⟩
  · exact ⟨true, a - 9223372036854775808, by omega, by simp [wd]; omega⟩

theorem read_wd (s : Bool) (r : Nat) (h : r < 9223372036854775808) : double.read (wd s r) = rd s r := by
  unfold Format.read rd
  simp only [sw, bin, infr, lp]
  have h1 : wd s r % 9223372036854775808 = r := by cases s <;> simp [wd] <;> omega
  have h2 : (wd s r / 9223372036854775808 % 2 == 1) = s := by
    cases s
    · simp [wd]; omega
    · simp [wd]; omega
  rw [h1, h2]

theorem wd_lt (s : Bool) (r : Nat) (h : r < 9223372036854775808) : wd s r < 18446744073709551616 := by
  cases s <;> simp [wd] <;> omega

theorem wd_inj {s t : Bool} {r q : Nat} (h : r < 9223372036854775808) (h' : q < 9223372036854775808) (e : wd s r = wd t q) : s = t ∧ r = q := by
  cases s <;> cases t <;> simp [wd] at e <;> first | exact ⟨rfl, by omega⟩ | omega

def canonW (a : Nat) : Nat := if a % 9223372036854775808 > 9218868437227405312 then 9221120237041090561 else a
def flipW (a : Nat) : Nat := if a < 9223372036854775808 then a + 9223372036854775808 else a - 9223372036854775808
def negW (a : Nat) : Nat := canonW (flipW a)
def absW (a : Nat) : Nat := canonW (a % 9223372036854775808)
def isNan (a : Nat) : Bool := decide (9218868437227405312 < a % 9223372036854775808)
def addW (a b : Nat) : Nat := (double.add a b).getD 9221120237041090561
def mulW (a b : Nat) : Nat := (double.mul a b).getD 9221120237041090561
def divW (a b : Nat) : Nat := (double.div a b).getD 9221120237041090561
def subW (a b : Nat) : Nat := addW a (negW b)

theorem wd_mod (s : Bool) (r : Nat) (h : r < 9223372036854775808) : wd s r % 9223372036854775808 = r := by
  cases s <;> simp [wd] <;> omega
theorem flip_wd (s : Bool) (r : Nat) (h : r < 9223372036854775808) : flipW (wd s r) = wd (!s) r := by
  cases s
  · show (if r < 9223372036854775808 then r + 9223372036854775808 else r - 9223372036854775808) = 9223372036854775808 + r
    rw [if_pos h]; omega
  · show (if 9223372036854775808 + r < 9223372036854775808 then 9223372036854775808 + r + 9223372036854775808 else 9223372036854775808 + r - 9223372036854775808) = r
    rw [if_neg (by omega)]; omega
theorem canon_wd (s : Bool) (r : Nat) (h : r < 9223372036854775808) : canonW (wd s r) = if 9218868437227405312 < r then 9221120237041090561 else wd s r := by
  unfold canonW; rw [wd_mod s r h]
theorem neg_wd (s : Bool) (r : Nat) (h : r < 9223372036854775808) : negW (wd s r) = if 9218868437227405312 < r then 9221120237041090561 else wd (!s) r := by
  unfold negW; rw [flip_wd s r h, canon_wd _ r h]
theorem abs_wd (s : Bool) (r : Nat) (h : r < 9223372036854775808) : absW (wd s r) = if 9218868437227405312 < r then 9221120237041090561 else r := by
  unfold absW canonW; rw [wd_mod s r h, Nat.mod_eq_of_lt h]

/-- the word of a datum that is no NaN is no NaN -/
theorem write_number (s : Bool) (m : Nat) (e : Int) : double.write (.number s m e) = wd s (rung m e) := by
  show double.nearest s m e = _
  rw [nearest_eq, word_wd]
theorem write_inf (s : Bool) : double.write (.infinity s) = wd s 9218868437227405312 := by
  show double.word s double.infRung = _
  rw [infr, word_wd]

def okD : Datum → Prop
  | .nan .. => False
  | _ => True

theorem canon_write {d : Datum} (h : okD d) : canonW (double.write d) = double.write d := by
  cases d with
  | number s m e =>
    rw [write_number, canon_wd _ _ (by have := rung_le m e; omega), if_neg (by have := rung_le m e; omega)]
  | infinity s => rw [write_inf, canon_wd _ _ (by omega), if_neg (by omega)]
  | nan s t => exact h.elim

theorem sum_ok {x y d : Datum} (h : x.sum y = some d) : okD d := by
  cases x <;> cases y <;> simp only [Datum.sum] at h <;> first | (cases h; trivial) | (cases h; done) | skip
  split at h <;> cases h; trivial
theorem product_ok {x y d : Datum} (h : x.product y = some d) : okD d := by
  cases x <;> cases y <;> simp only [Datum.product] at h <;> first | (cases h; trivial) | (cases h; done) | (split at h <;> cases h; trivial)
theorem quotient_ok {k : Nat} {x y d : Datum} (h : x.quotient k y = some d) : okD d := by
  cases x <;> cases y <;> simp only [Datum.quotient] at h <;> first | (cases h; trivial) | (cases h; done) | skip
  split at h
  · split at h <;> cases h; trivial
  · cases h; trivial

theorem canon_nan : canonW 9221120237041090561 = 9221120237041090561 := by decide

theorem canon_add (a b : Nat) : canonW (addW a b) = addW a b := by
  unfold addW Format.add
  cases h : (double.read a).sum (double.read b) with
  | none => exact canon_nan
  | some d => exact canon_write (sum_ok h)
theorem canon_mul (a b : Nat) : canonW (mulW a b) = mulW a b := by
  unfold mulW Format.mul
  cases h : (double.read a).product (double.read b) with
  | none => exact canon_nan
  | some d => exact canon_write (product_ok h)
theorem canon_div (a b : Nat) : canonW (divW a b) = divW a b := by
  unfold divW Format.div
  cases h : (double.read a).quotient (double.fractionBits + 2) (double.read b) with
  | none => exact canon_nan
  | some d => exact canon_write (quotient_ok h)

theorem sum_comm (x y : Datum) : x.sum y = y.sum x := by
  cases x <;> cases y <;> simp only [Datum.sum]
  · rename_i s m i t n j
    rw [Int.min_comm i j]
    generalize (min j i) = b
    rw [Int.add_comm (signed s m _), Bool.and_comm s t]
  · rename_i s t
    by_cases h : s = t
    · subst h; rfl
    · rw [if_neg h, if_neg (fun h' => h h'.symm)]
theorem product_comm (x y : Datum) : x.product y = y.product x := by
  cases x <;> cases y <;> simp only [Datum.product]
  · rename_i s m i t n j
    rw [Nat.mul_comm, Int.add_comm, Bool.xor_comm]
  · rw [Bool.xor_comm]
theorem add_comm (a b : Nat) : addW a b = addW b a := by unfold addW Format.add; rw [sum_comm]
theorem mul_comm (a b : Nat) : mulW a b = mulW b a := by unfold mulW Format.mul; rw [product_comm]
end Gn
