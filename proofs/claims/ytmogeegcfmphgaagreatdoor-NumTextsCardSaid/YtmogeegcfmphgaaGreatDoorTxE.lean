import Derived.Test.YtmogeegcfmphgaaGreatDoorTxD
namespace Go.Proofs.YtmogeegcfmphgaaGreatDoor
open Go.RowKit

theorem and1 (m : Nat) (h : m < 18446744073709551616) : bits .and .u64 (m : Int) 1 = ((m % 2 : Nat) : Int) := by
  rw [show (1 : Int) = ((1 : Nat) : Int) from rfl, bits_and_u64_nat m 1 h (by decide), Nat.and_one_is_mod]
theorem fx_low (a : Nat) : fx (a % 9223372036854775808) = fx a := by unfold fx; omega
theorem fm_low (a : Nat) : fm (a % 9223372036854775808) = fm a := by unfold fm; omega
theorem cls_low (a : Nat) : clsN (a % 9223372036854775808) = clsN a := by unfold clsN; rw [Nat.mod_mod]
theorem tM_low (a : Nat) : tM (a % 9223372036854775808) = tM a := by unfold tM; rw [fx_low, fm_low]
theorem tE_low (a : Nat) : tE (a % 9223372036854775808) = tE a := by unfold tE; rw [fx_low]
theorem amt_low (a : Nat) : amtB (a % 9223372036854775808) = amtB a := by unfold amtB oN pN; rw [cls_low, tM_low, tE_low]
/-- a word's sign, as a text -/
def sgnB (a : Nat) : ByteArray := if a < 9223372036854775808 then ⟨#[]⟩ else ⟨#[45]⟩
theorem text_nan (a : Nat) (h : clsN a = 0) : textB a = ⟨#[110, 97, 110]⟩ := by
  have h1 := (cls_nan a).1 h
  have e : Gn.canonW a = 9221120237041090561 := by unfold Gn.canonW; rw [if_pos h1]
  unfold textB
  rw [e, if_pos (by decide)]
  unfold amtB
  rw [if_pos (by decide)]
theorem text_not (a : Nat) (h : clsN a ≠ 0) : textB a = sgnB a ++ amtB a := by
  have h1 : ¬ 9218868437227405312 < a % 9223372036854775808 := fun e => h ((cls_nan a).2 e)
  have e : Gn.canonW a = a := by unfold Gn.canonW; rw [if_neg h1]
  unfold textB sgnB
  rw [e]
  split
  · apply ByteArray.ext; simp
  · rw [amt_low]
set_option maxHeartbeats 400000 in
theorem rnan_any (a : Nat) (h : a < 18446744073709551616) (w : World) : Calls Tryz.prog 11 #[.int .u64 (a : Int)] w fun e w' => e = .returned (.bool (decide (clsN a = 0))) ∧ w' = w := by
  have hn := abs_andNot a h
  have hc := cls_nan a
  by_cases c : clsN a = 0
  · have h1 := hc.1 c
    rw [decide_eq_true c]
    have b1 : decide ((9218868437227405312 : Int) < ((a % 9223372036854775808 : Nat) : Int)) = true := by simp; omega
    clear hc c h1
    generalize a % 9223372036854775808 = x at *
    go_enter Tryz.func11, Tryz.ntmps11
    go_wp2
    go_ret
    exact ⟨rfl, rfl⟩
  · have h1 : ¬ 9218868437227405312 < a % 9223372036854775808 := fun e => c (hc.2 e)
    rw [decide_eq_false c]
    have b1 : decide ((9218868437227405312 : Int) < ((a % 9223372036854775808 : Nat) : Int)) = false := by simp; omega
    clear hc c h1
    generalize a % 9223372036854775808 = x at *
    go_enter Tryz.func11, Tryz.ntmps11
    go_wp2
    go_ret
    exact ⟨rfl, rfl⟩
set_option maxHeartbeats 400000 in
theorem rtaken_any (a : Nat) (h : a < 18446744073709551616) (w : World) :
    Calls Tryz.prog 12 #[.int .u64 (a : Int)] w fun e' w' => e' = .returned (.tuple #[.int .u64 (tM a : Int), .int .i64 (tE a)]) ∧ w' = w := by
  have hx := fields_x a h
  have hm := fields_m a h
  have hl : fx a < 2048 := Nat.mod_lt _ (by decide)
  have hw : IntKind.i64.wrap (fx a : Int) = (fx a : Int) := by rw [IntKind.wrap_i64]; omega
  unfold tM tE
  by_cases h0 : fx a = 0
  · rw [if_pos h0, if_pos h0]
    have hb : ((fx a : Int) == 0) = true := beqN_t (y := 0) h0
    clear h0 hl
    go_enter Tryz.func12, Tryz.ntmps12
    go_wp2
    go_ret2
    exact ⟨rfl, rfl⟩
  · rw [if_neg h0, if_neg h0]
    have hb : ((fx a : Int) == 0) = false := by rw [beq_eq_false_iff_ne]; omega
    have ho := tHalf a
    clear h0
    go_enter Tryz.func12, Tryz.ntmps12
    go_wp2
    go_ret2
    exact ⟨rfl, rfl⟩
theorem end_neg (s : ByteArray) (o : Nat) (P : Int) (h : P < 0) : s ++ ⟨(Lib.decDigits o).toArray⟩ ++ ⟨#[112, 45]⟩ ++ ⟨(Lib.decDigits (-P).toNat).toArray⟩ = s ++ ((⟨(Lib.decDigits o).toArray⟩ : ByteArray) ++ ⟨#[112]⟩ ++ ⟨(Lib.itoa P).toArray⟩) := by
  have e : Lib.itoa P = 45 :: Lib.decDigits (-P).toNat := by unfold Lib.itoa; rw [if_pos h, show P.natAbs = (-P).toNat by omega]
  rw [e]
  apply ByteArray.ext
  simp
theorem end_pos (s : ByteArray) (o : Nat) (P : Int) (h : ¬ P < 0) : s ++ ⟨(Lib.decDigits o).toArray⟩ ++ ⟨#[112]⟩ ++ ⟨(Lib.decDigits P.toNat).toArray⟩ = s ++ ((⟨(Lib.decDigits o).toArray⟩ : ByteArray) ++ ⟨#[112]⟩ ++ ⟨(Lib.itoa P).toArray⟩) := by
  have e : Lib.itoa P = Lib.decDigits P.toNat := by unfold Lib.itoa; rw [if_neg h]
  rw [e]
  apply ByteArray.ext
  simp
end Go.Proofs.YtmogeegcfmphgaaGreatDoor
