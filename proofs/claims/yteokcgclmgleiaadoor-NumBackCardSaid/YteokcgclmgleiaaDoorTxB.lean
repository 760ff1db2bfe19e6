import Derived.Test.YteokcgclmgleiaaDoorTxA
import Derived.Test.YteokcgclmgleiaaDoorWalkI
import Derived.Shelf.Spec.TrailingZeros
namespace Go.Proofs.YteokcgclmgleiaaDoor
open Go.RowKit

/-- the table of the trailing zeros -/
abbrev Tab64 (w : World) : Prop := TabAt 1 Lib.deBruijn64tab w
theorem tz_ctz (x : Nat) (hx : x < 18446744073709551616) (h0 : x ≠ 0) (w : World) (hT : Tab64 w) :
    Calls Tryd.prog 60 #[.int .u64 (x : Int)] w fun e w' => e = .returned (.int .i64 (Lib.ctz 64 x : Int)) ∧ w' = w := by
  obtain ⟨hlow, hk⟩ := Lib.lowest_bit 64 x h0 hx
  obtain ⟨hi, htab⟩ := Lib.deBruijn64_at _ hk
  have hcell := hT _ hi
  rw [htab] at hcell
  exact tz_any x _ _ w (by simp; omega) (tz64_key x _ hx h0 hlow) hi (by omega) hcell
/-- the whole number and the power that a word stands for -/
def tM (a : Nat) : Nat := if fx a = 0 then fm a else fm a + 4503599627370496
def tE (a : Nat) : Int := if fx a = 0 then -1074 else (fx a : Int) - 1075
theorem tHalf (a : Nat) : bits .or .u64 (fm a : Int) 4503599627370496 = ((fm a + 4503599627370496 : Nat) : Int) := by
  have hl : fm a < 4503599627370496 := Nat.mod_lt _ (by decide)
  rw [show (4503599627370496 : Int) = ((4503599627370496 : Nat) : Int) from rfl, u64_or_nat _ _ (by omega) (by omega)]
  have := Nat.two_pow_add_eq_or_of_lt (i := 52) hl 1
  rw [Nat.mul_one] at this
  rw [Nat.or_comm, Nat.add_comm]
  exact congrArg Int.ofNat this.symm
theorem tM_lt (a : Nat) : tM a < 9007199254740992 := by
  have hl : fm a < 4503599627370496 := Nat.mod_lt _ (by decide)
  unfold tM; split <;> omega
theorem tE_bd (a : Nat) : -1074 ≤ tE a ∧ tE a ≤ 972 := by
  have hl : fx a < 2048 := Nat.mod_lt _ (by decide)
  unfold tE; split <;> omega
set_option maxHeartbeats 400000 in
theorem oddPow_as (a M z o : Nat) (E : Int) (h : a < 18446744073709551616) (hM : tM a = M) (hE : tE a = E) (hz : Lib.ctz 64 M = z) (hz64 : z < 64) (ho : M / 2 ^ z = o) (h0 : M ≠ 0) (w : World) (hT : Tab64 w) :
    Calls Tryd.prog 40 #[.int .u64 (a : Int)] w fun e' w' => e' = .returned (.tuple #[.int .u64 (o : Int), .int .i64 (E + (z : Int))]) ∧ w' = w := by
  have hMl := tM_lt a
  have hEb := tE_bd a
  rw [hM] at hMl
  rw [hE] at hEb
  have e1 : (M : Int) / 2 ^ z = (o : Int) := by rw [← ho, Int.natCast_ediv]; simp
  have HZ := Lib.hid (tz_ctz M (by omega) h0 w hT)
  rw [hz] at HZ
  have hx := fields_any a h
  have hl : fx a < 2048 := Nat.mod_lt _ (by decide)
  have hw : IntKind.i64.wrap (fx a : Int) = (fx a : Int) := by rw [IntKind.wrap_i64]; omega
  have HF := Lib.hid hx
  clear hT hx hz
  unfold tM at hM
  unfold tE at hE
  by_cases hx0 : fx a = 0
  · rw [if_pos hx0] at hM hE
    have hb : ((fx a : Int) == 0) = true := beqN_t (y := 0) hx0
    rw [hM] at HF
    clear hx0
    go_enter Tryd.func40, Tryd.ntmps40
    go_wp2_with (first
      | (go_at_call 29; refine (HF.out _).mono ?_; rintro e w' ⟨rfl, rfl⟩)
      | (go_at_call 60; refine HZ.out.mono ?_; rintro e w' ⟨rfl, rfl⟩))
    go_ret2
    exact ⟨rfl, rfl⟩
  · rw [if_neg hx0] at hM hE
    have hb : ((fx a : Int) == 0) = false := by rw [beq_eq_false_iff_ne]; omega
    have hb2 : ((fx a : Int) != 0) = true := by rw [bne_iff_ne]; omega
    have hor := tHalf a
    rw [hM] at hor
    clear hx0
    go_enter Tryd.func40, Tryd.ntmps40
    go_wp2_with (first
      | (go_at_call 29; refine (HF.out _).mono ?_; rintro e w' ⟨rfl, rfl⟩)
      | (go_at_call 60; refine HZ.out.mono ?_; rintro e w' ⟨rfl, rfl⟩))
    have e2 : -1074 + (fx a : Int) - 1 = E := by omega
    go_ret2
    exact ⟨by rw [e2]; rfl, rfl⟩
/-- the odd number and the power -/
def oN (a : Nat) : Nat := tM a / 2 ^ Lib.ctz 64 (tM a)
def pN (a : Nat) : Int := tE a + (Lib.ctz 64 (tM a) : Int)
def amtB (a : Nat) : ByteArray := if clsN a = 0 then ⟨#[110, 97, 110]⟩ else if clsN a = 1 then ⟨#[105, 110, 102]⟩ else if clsN a = 2 then ⟨#[48]⟩ else (⟨(Lib.decDigits (oN a)).toArray⟩ : ByteArray) ++ ⟨#[112]⟩ ++ ⟨(Lib.itoa (pN a)).toArray⟩
def textB (a : Nat) : ByteArray := if Gn.canonW a < 9223372036854775808 then amtB (Gn.canonW a) else (⟨#[45]⟩ : ByteArray) ++ amtB (Gn.canonW a % 9223372036854775808)
theorem ctz_lt (M : Nat) (h0 : M ≠ 0) (hl : M < 18446744073709551616) : Lib.ctz 64 M < 64 := by
  obtain ⟨m, _, h⟩ := Lib.ctzFrom_spec 64 M (by omega) hl
  unfold Lib.ctz
  rw [if_neg h0]
  exact h
theorem tM_ne (a : Nat) (h : 3 ≤ clsN a) : tM a ≠ 0 := by
  unfold tM
  rcases cls_cases a with ⟨_, _, h3⟩ | ⟨_, _, h3⟩ | ⟨_, _, h3⟩ | ⟨h1, h2, _⟩ | ⟨_, h2, _⟩
  · omega
  · omega
  · omega
  · rw [if_pos h1]; exact h2
  · rw [if_neg h2]; omega
theorem itoa_len (n : Int) (h1 : -2000 ≤ n) (h2 : n ≤ 2000) : (Lib.itoa n).length ≤ 21 := by
  unfold Lib.itoa
  split
  · have := nd_le n.natAbs (by omega); simp; omega
  · have := nd_le n.toNat (by omega); omega
theorem amt_size (a : Nat) : (amtB a).size ≤ 100 := by
  unfold amtB
  split
  · decide
  split
  · decide
  split
  · decide
  · next h1 h2 h3 =>
    have hc : 3 ≤ clsN a := by omega
    have hM := tM_lt a
    have hz := ctz_lt (tM a) (tM_ne a hc) (by omega)
    have hE := tE_bd a
    have ho : oN a ≤ tM a := Nat.div_le_self _ _
    have l1 := nd_le (oN a) (by omega)
    have l2 := itoa_len (pN a) (by unfold pN; omega) (by unfold pN; omega)
    simp only [ByteArray.size_append]
    show (Lib.decDigits (oN a)).toArray.size + 1 + (Lib.itoa (pN a)).toArray.size ≤ 100
    simp
    omega

set_option maxHeartbeats 400000 in
theorem amountText_any (a : Nat) (h : a < 18446744073709551616) (w : World) (hT : Tab64 w) (hT2 : Tab10 w) :
    Calls Tryd.prog 22 #[.int .u64 (a : Int)] w fun e w' => e = .returned (.string (amtB a)) ∧ Below w.heap.size w w' := by
  have HC := Lib.hid (class_any a h)
  by_cases c0 : clsN a = 0
  · have e : amtB a = ⟨#[110, 97, 110]⟩ := if_pos c0
    rw [e]
    rw [c0] at HC
    go_enter Tryd.func22, Tryd.ntmps22
    go_wp2_with (go_at_call 18; refine (HC.out _).mono ?_; rintro e w' ⟨rfl, rfl⟩)
    go_ret
    exact ⟨rfl, Below.refl _ _⟩
  by_cases c1 : clsN a = 1
  · have e : amtB a = ⟨#[105, 110, 102]⟩ := by unfold amtB; rw [if_neg c0, if_pos c1]
    rw [e]
    rw [c1] at HC
    go_enter Tryd.func22, Tryd.ntmps22
    go_wp2_with (go_at_call 18; refine (HC.out _).mono ?_; rintro e w' ⟨rfl, rfl⟩)
    go_ret
    exact ⟨rfl, Below.refl _ _⟩
  by_cases c2 : clsN a = 2
  · have e : amtB a = ⟨#[48]⟩ := by unfold amtB; rw [if_neg c0, if_neg c1, if_pos c2]
    rw [e]
    rw [c2] at HC
    go_enter Tryd.func22, Tryd.ntmps22
    go_wp2_with (go_at_call 18; refine (HC.out _).mono ?_; rintro e w' ⟨rfl, rfl⟩)
    go_ret
    exact ⟨rfl, Below.refl _ _⟩
  have e : amtB a = (⟨(Lib.decDigits (oN a)).toArray⟩ : ByteArray) ++ ⟨#[112]⟩ ++ ⟨(Lib.itoa (pN a)).toArray⟩ := by unfold amtB; rw [if_neg c0, if_neg c1, if_neg c2]
  rw [e]
  clear e
  have hc : 3 ≤ clsN a := by omega
  have b0 : ((clsN a : Int) == 0) = false := by rw [beq_eq_false_iff_ne]; omega
  have b1 : ((clsN a : Int) == 1) = false := by rw [beq_eq_false_iff_ne]; omega
  have b2 : ((clsN a : Int) == 2) = false := by rw [beq_eq_false_iff_ne]; omega
  have hM := tM_lt a
  have hz := ctz_lt (tM a) (tM_ne a hc) (by omega)
  have hE := tE_bd a
  have ho : oN a ≤ tM a := Nat.div_le_self _ _
  have HO := Lib.hid (oddPow_as a (tM a) (Lib.ctz 64 (tM a)) (oN a) (tE a) h rfl rfl rfl hz rfl (tM_ne a hc) w hT)
  have HP : Hid (pN a = tE a + (Lib.ctz 64 (tM a) : Int)) := rfl
  rw [← HP.out] at HO
  have hp1 : -2000 ≤ pN a := by have := HP.out; omega
  have hp2 : pN a ≤ 2000 := by have := HP.out; omega
  have HU := Lib.hid (formatUint_any (oN a) (by omega) w hT2)
  have HI := Lib.hid (fun w1 (hb : Below w.heap.size w w1) => itoa_any (pN a) (by omega) (by omega) w1 (tab10_below hT2 hb))
  have l1 := nd_le (oN a) (by omega)
  have l2 := itoa_len (pN a) hp1 hp2
  have hadd1 : ∀ w1 : World, (Op.stringOp .add ⟨(Lib.decDigits (oN a)).toArray⟩ ⟨#[112]⟩).run Tryd.prog w1 = .ok (.string ((⟨(Lib.decDigits (oN a)).toArray⟩ : ByteArray) ++ ⟨#[112]⟩)) w1 := fun w1 =>
    run_string_add_sum w1 _ _ (by show (Lib.decDigits (oN a)).toArray.size + 1 ≤ _; simp; omega)
  have hadd2 : ∀ w1 : World, (Op.stringOp .add ((⟨(Lib.decDigits (oN a)).toArray⟩ : ByteArray) ++ ⟨#[112]⟩) ⟨(Lib.itoa (pN a)).toArray⟩).run Tryd.prog w1 = .ok (.string ((⟨(Lib.decDigits (oN a)).toArray⟩ : ByteArray) ++ ⟨#[112]⟩ ++ ⟨(Lib.itoa (pN a)).toArray⟩)) w1 := fun w1 =>
    run_string_add_sum w1 _ _ (by rw [ByteArray.size_append]; show (Lib.decDigits (oN a)).toArray.size + 1 + (Lib.itoa (pN a)).toArray.size ≤ _; simp; omega)
  generalize (⟨(Lib.decDigits (oN a)).toArray⟩ : ByteArray) ++ ⟨#[112]⟩ ++ ⟨(Lib.itoa (pN a)).toArray⟩ = s2 at *
  generalize (⟨(Lib.decDigits (oN a)).toArray⟩ : ByteArray) ++ ⟨#[112]⟩ = s1 at *
  generalize (⟨(Lib.decDigits (oN a)).toArray⟩ : ByteArray) = d1 at *
  generalize (⟨(Lib.itoa (pN a)).toArray⟩ : ByteArray) = d2 at *
  clear hT hT2 hM hz hE ho c0 c1 c2 hc HP l1 l2
  go_enter Tryd.func22, Tryd.ntmps22
  go_wp2_with fail
  refine (HC.out _).mono ?_
  rintro e w1 ⟨rfl, rfl⟩
  go_wp2_with fail
  refine HO.out.mono ?_
  rintro e w1 ⟨rfl, rfl⟩
  go_wp2_with fail
  refine HU.out.mono ?_
  rintro e w2 ⟨rfl, hb2⟩
  go_wp2_with fail
  refine (HI.out _ hb2).mono ?_
  rintro e w3 ⟨rfl, hb3⟩
  have HB := Lib.hid (hb2.trans (hb3.mono hb2.size))
  clear hb2 hb3
  go_wp2_with fail
  go_ret
  exact ⟨rfl, HB.out⟩
end Go.Proofs.YteokcgclmgleiaaDoor
