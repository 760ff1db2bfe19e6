import Derived.Test.YtdklpgkheakapaaGreatDoorRestA
import Derived.Test.YtdklpgkheakapaaGreatDoorDivM
namespace Gn
open Ieee
theorem div_n1 (s t : Bool) (r q : Nat) (hr : r < 9223372036854775808) (h : 9218868437227405312 < r) : divW (wd s r) (wd t q) = 9221120237041090561 := by
  rw [div_ans, read_wd s r hr]
  have e : rd s r = .nan s (r - 9218868437227405312) := by unfold rd; rw [if_neg (by omega), if_neg (by omega), if_neg (by omega)]
  rw [e]
  cases double.read (wd t q) <;> rfl
theorem div_n2 (s t : Bool) (r q : Nat) (hq : q < 9223372036854775808) (h : 9218868437227405312 < q) : divW (wd s r) (wd t q) = 9221120237041090561 := by
  rw [div_ans, read_wd t q hq]
  have e : rd t q = .nan t (q - 9218868437227405312) := by unfold rd; rw [if_neg (by omega), if_neg (by omega), if_neg (by omega)]
  rw [e]
  cases double.read (wd s r) <;> rfl
theorem div_ii (s t : Bool) : divW (wd s 9218868437227405312) (wd t 9218868437227405312) = 9221120237041090561 := by
  rw [div_ans, read_wd s _ (by decide), read_wd t _ (by decide), rd_inf, rd_inf]; rfl
theorem div_zz (s t : Bool) : divW (wd s 0) (wd t 0) = 9221120237041090561 := by
  rw [div_ans, read_wd s _ (by decide), read_wd t _ (by decide), rd_zero, rd_zero]; rfl
theorem rd_mg (s : Bool) (r : Nat) (hr : r < 9218868437227405312) : rd s r = .number s (mg r) ((ex r : Int) - 1074) := by
  unfold rd mg ex
  by_cases h : r < 4503599627370496
  · rw [if_pos h, if_pos h, show r / 4503599627370496 - 1 = 0 by omega]; rfl
  · rw [if_neg h, if_neg h, if_pos hr]
    congr 1
theorem div_if (s t : Bool) (q : Nat) (hq : q < 9218868437227405312) : divW (wd s 9218868437227405312) (wd t q) = wd (s ^^ t) 9218868437227405312 := by
  rw [div_ans, read_wd s _ (by decide), read_wd t q (by omega), rd_inf, rd_mg t q hq, ← ans_inf]
  rfl
theorem div_fz (s t : Bool) (r : Nat) (hr : r < 9218868437227405312) (h0 : mg r ≠ 0) : divW (wd s r) (wd t 0) = wd (s ^^ t) 9218868437227405312 := by
  rw [div_ans, read_wd s r (by omega), read_wd t _ (by decide), rd_mg s r hr, rd_zero, ← ans_inf]
  show ans (if mg r = 0 then none else some (.infinity (s ^^ t))) = _
  rw [if_neg h0]
theorem div_fi (s t : Bool) (r : Nat) (hr : r < 9218868437227405312) : divW (wd s r) (wd t 9218868437227405312) = wd (s ^^ t) 0 := by
  rw [div_ans, read_wd s r (by omega), read_wd t _ (by decide), rd_mg s r hr, rd_inf]
  show double.write (.number (s ^^ t) 0 0) = _
  rw [write_number]; rfl
theorem div_rd {s t : Bool} {m n a b : Nat} {i j : Int} (hn : n ≠ 0) (ha : double.read a = .number s m i) (hb : double.read b = .number t n j) :
    divW a b = wd (s ^^ t) (rung (st m n (54 + n.log2 - m.log2)) (i - j - ((54 + n.log2 - m.log2 : Nat) : Int) - 1)) := by
  rw [div_ans, ha, hb]
  have e : Datum.quotient (double.fractionBits + 2) (.number s m i) (.number t n j) = some (.number (s ^^ t) (st m n (54 + n.log2 - m.log2)) (i - j - ((54 + n.log2 - m.log2 : Nat) : Int) - 1)) := by
    unfold Datum.quotient st
    simp only [hn, if_false, ← Nat.shiftLeft_eq]
    rfl
  rw [e]
  show double.write (.number _ _ _) = _
  rw [write_number]
theorem div_zf (s t : Bool) (q : Nat) (hq : q < 9218868437227405312) (h0 : mg q ≠ 0) : divW (wd s 0) (wd t q) = wd (s ^^ t) 0 := by
  rw [div_rd h0 (by rw [read_wd s _ (by decide)]; exact rd_zero s) (by rw [read_wd t q (by omega)]; exact rd_mg t q hq)]
  have e : ∀ k, st 0 (mg q) k = 0 := fun k => by unfold st; simp
  rw [e]
  rfl
theorem div_num (s t : Bool) (r q K : Nat) (hr : r < 9218868437227405312) (hq : q < 9218868437227405312) (h1 : mg r ≠ 0) (h2 : mg q ≠ 0) (hK : K = 123 - (mg r).log2) (hl1 : (mg r).log2 ≤ 52) (hl2 : (mg q).log2 ≤ 52) :
    divW (wd s r) (wd t q) = wd (s ^^ t) (rung (st (mg r) (mg q) K) (((ex r : Int) - 1074) - ((ex q : Int) - 1074) - (K : Int) - 1)) := by
  rw [div_rd h2 (by rw [read_wd s r (by omega)]; exact rd_mg s r hr) (by rw [read_wd t q (by omega)]; exact rd_mg t q hq)]
  have h := st_more (mg r) (mg q) (54 + (mg q).log2 - (mg r).log2) (((ex r : Int) - 1074) - ((ex q : Int) - 1074)) (by omega) (enough _ _ h1 (by omega)) (K - (54 + (mg q).log2 - (mg r).log2))
  rw [show 54 + (mg q).log2 - (mg r).log2 + (K - (54 + (mg q).log2 - (mg r).log2)) = K by omega] at h
  rw [h]
end Gn
