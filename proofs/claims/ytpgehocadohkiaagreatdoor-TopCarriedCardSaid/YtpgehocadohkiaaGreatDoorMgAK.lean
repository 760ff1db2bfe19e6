import Derived.Test.YtpgehocadohkiaaGreatDoorMgAJ
import Derived.Test.YtpgehocadohkiaaGreatDoorMgAF
import Derived.Test.YtpgehocadohkiaaGreatDoorMgAB

section
namespace Go.Proofs.YtpgehocadohkiaaGreatDoor
open Go.RowKit

theorem below_bytes (w : World) (e : TypeId) (s : ByteArray) : Below w.heap.size w (Lib.bytesWorld w e s) :=
  ⟨rfl, rfl, rfl, by rw [Lib.bytesWorld_size]; omega, fun k hk => Lib.bytesWorld_at_old w e s k hk⟩
theorem below_drewN' {B : Nat} {a w : World} (h : Below B a w) (n : Nat) : Below B a (w.drewN n) := h.trans ⟨rfl, rfl, rfl, Nat.le_refl _, fun _ _ => rfl⟩

theorem bt {a b c : World} (h : Below a.heap.size a b) (k : Below b.heap.size b c) : Below a.heap.size a c := h.trans (k.mono h.size)
theorem bd (w : World) (n : Nat) : Below w.heap.size w (w.drewN n) := below_drewN' (Below.refl _ _) n

theorem pu_any (s : ByteArray) (u : Nat) (hmax : s.size ≤ 9223372036854775806) (h : Lib.parseUintB 64 s.data.toList = .ok u) (w : World) :
    Calls Tryz.prog 104 #[.string s, .int .i64 10, .int .i64 64] w fun e w' => e = .returned (.tuple #[.int .u64 u, .nilIface]) ∧ Below w.heap.size w w' := by
  refine (Tryz.strconv_ParseUint_10_at64_ok s hmax u h w).mono ?_
  rintro e w' ⟨rfl, hw⟩
  refine ⟨rfl, ?_⟩
  rcases hw with rfl | rfl
  · exact Below.refl _ _
  · exact below_bytes _ _ _
theorem atoi_any (s : ByteArray) (n : Int) (hl : s.size ≤ 18) (h : Lib.atoi s.data.toList = some n) (w : World) :
    Calls Tryz.prog 196 #[.string s] w fun e w' => e = .returned (.tuple #[.int .i64 n, .nilIface]) ∧ Below w.heap.size w w' := by
  refine (Tryz.strconv_Atoi s n hl h w).mono ?_
  rintro e w' ⟨rfl, t, rfl⟩
  exact ⟨rfl, below_bytes _ _ _⟩

theorem cut_5p1 (w : World) : Calls Tryz.prog 193 #[.string ⟨#[53, 112, 49]⟩, .string ⟨#[112]⟩] w fun e w' => e = .returned (.tuple #[.string ⟨#[53]⟩, .string ⟨#[49]⟩, .bool true]) ∧ ∃ n, w' = w.drewN n :=
  cut_yes ⟨#[53, 112, 49]⟩ 1 (by decide) (by decide) (by decide) w
theorem cut_2p0 (w : World) : Calls Tryz.prog 193 #[.string ⟨#[50, 112, 48]⟩, .string ⟨#[112]⟩] w fun e w' => e = .returned (.tuple #[.string ⟨#[50]⟩, .string ⟨#[48]⟩, .bool true]) ∧ ∃ n, w' = w.drewN n :=
  cut_yes ⟨#[50, 112, 48]⟩ 1 (by decide) (by decide) (by decide) w
theorem cut_1p1024 (w : World) : Calls Tryz.prog 193 #[.string ⟨#[49, 112, 49, 48, 50, 52]⟩, .string ⟨#[112]⟩] w fun e w' => e = .returned (.tuple #[.string ⟨#[49]⟩, .string ⟨#[49, 48, 50, 52]⟩, .bool true]) ∧ ∃ n, w' = w.drewN n :=
  cut_yes ⟨#[49, 112, 49, 48, 50, 52]⟩ 1 (by decide) (by decide) (by decide) w

set_option maxHeartbeats 400000 in
theorem parseAmount_5p1 (w : World) : Calls Tryz.prog 164 #[.string ⟨#[53, 112, 49]⟩] w fun e w' => e = .returned (.tuple #[.int .u64 4621819117588971520, .int .i64 0]) ∧ Below w.heap.size w w' := by
  have hof : floatOfInt .f64 5 = 4617315517961601024 := by decide
  have hbl : Lib.bitLen 5 = 3 := by decide
  have hcn : Gn.canonW 4621819117588971520 = 4621819117588971520 := by decide
  have hp5 : Lib.parseUintB 64 (⟨#[53]⟩ : ByteArray).data.toList = .ok 5 := by decide
  have ha1 : Lib.atoi (⟨#[49]⟩ : ByteArray).data.toList = some 1 := by decide
  go_enter Tryz.func164, Tryz.ntmps164
  go_wp2_with (first
    | (go_at_call 193; refine (cut_5p1 _).mono ?_; rintro e w' ⟨rfl, n, rfl⟩)
    | (go_at_call 194; refine (isOdd_5 _).mono ?_; rintro e w' ⟨rfl, rfl⟩)
    | (go_at_call 195; refine (isPower_1 _).mono ?_; rintro e w' ⟨rfl, rfl⟩)
    | (go_at_call 104; refine (pu_any ⟨#[53]⟩ 5 (by decide) hp5 _).mono ?_; rintro e w1 ⟨rfl, hb1⟩)
    | (go_at_call 196; refine (atoi_any ⟨#[49]⟩ 1 (by decide) ha1 _).mono ?_; rintro e w2 ⟨rfl, hb2⟩)
    | (go_at_call 153; refine (Tryz.bits_Len64 _ _ (by decide) (by decide)).mono ?_; rintro e w3 ⟨rfl, rfl⟩)
    | (go_at_call 197; refine (ldexp_5 _).mono ?_; rintro e w3 ⟨rfl, rfl⟩)
    | (go_at_call 168; refine (bitsOf_any 4621819117588971520 (by decide) _).mono ?_; rintro e w3 ⟨rfl, rfl⟩))
  go_ret2
  exact ⟨rfl, bt (bt (bd _ _) hb1) hb2⟩
set_option maxHeartbeats 400000 in
theorem parseAmount_2p0 (w : World) : Calls Tryz.prog 164 #[.string ⟨#[50, 112, 48]⟩] w fun e w' => e = .returned (.tuple #[.int .u64 0, .int .i64 10]) ∧ Below w.heap.size w w' := by
  go_enter Tryz.func164, Tryz.ntmps164
  go_wp2_with (first
    | (go_at_call 193; refine (cut_2p0 _).mono ?_; rintro e w' ⟨rfl, n, rfl⟩)
    | (go_at_call 194; refine (isOdd_2 _).mono ?_; rintro e w' ⟨rfl, rfl⟩))
  go_ret2
  exact ⟨rfl, bd _ _⟩
set_option maxHeartbeats 400000 in
theorem parseAmount_1p1024 (w : World) : Calls Tryz.prog 164 #[.string ⟨#[49, 112, 49, 48, 50, 52]⟩] w fun e w' => e = .returned (.tuple #[.int .u64 0, .int .i64 11]) ∧ Below w.heap.size w w' := by
  have hbl : Lib.bitLen 1 = 1 := by decide
  have hp5 : Lib.parseUintB 64 (⟨#[49]⟩ : ByteArray).data.toList = .ok 1 := by decide
  have ha1 : Lib.atoi (⟨#[49, 48, 50, 52]⟩ : ByteArray).data.toList = some 1024 := by decide
  go_enter Tryz.func164, Tryz.ntmps164
  go_wp2_with (first
    | (go_at_call 193; refine (cut_1p1024 _).mono ?_; rintro e w' ⟨rfl, n, rfl⟩)
    | (go_at_call 194; refine (isOdd_1 _).mono ?_; rintro e w' ⟨rfl, rfl⟩)
    | (go_at_call 195; refine (isPower_1024 _).mono ?_; rintro e w' ⟨rfl, rfl⟩)
    | (go_at_call 104; refine (pu_any ⟨#[49]⟩ 1 (by decide) hp5 _).mono ?_; rintro e w1 ⟨rfl, hb1⟩)
    | (go_at_call 196; refine (atoi_any ⟨#[49, 48, 50, 52]⟩ 1024 (by decide) ha1 _).mono ?_; rintro e w2 ⟨rfl, hb2⟩)
    | (go_at_call 153; refine (Tryz.bits_Len64 _ _ (by decide) (by decide)).mono ?_; rintro e w3 ⟨rfl, rfl⟩))
  go_ret2
  exact ⟨rfl, bt (bt (bd _ _) hb1) hb2⟩

theorem ex_5p1 : (((⟨#[53, 112, 49]⟩ : ByteArray).extract 0 1).toList == [45]) = false := by rw [Lib.extract_toList]; decide
theorem ex_2p0 : (((⟨#[50, 112, 48]⟩ : ByteArray).extract 0 1).toList == [45]) = false := by rw [Lib.extract_toList]; decide
theorem ex_1p1024 : (((⟨#[49, 112, 49, 48, 50, 52]⟩ : ByteArray).extract 0 1).toList == [45]) = false := by rw [Lib.extract_toList]; decide
set_option maxHeartbeats 400000 in
theorem parse_5p1 (w : World) : Calls Tryz.prog 107 #[.string ⟨#[53, 112, 49]⟩] w fun e w' => e = .returned (.tuple #[.int .u64 4621819117588971520, .int .i64 0]) ∧ Below w.heap.size w w' := by
  go_enter Tryz.func107, Tryz.ntmps107
  go_wp2_with (first
    | (go_at_call 75; refine (cutPrefix_no _ (by decide) ex_5p1 _).mono ?_; rintro e w' ⟨rfl, rfl⟩)
    | (go_at_call 164; refine (parseAmount_5p1 _).mono ?_; rintro e w1 ⟨rfl, hb1⟩))
  go_ret2
  exact ⟨rfl, hb1⟩
set_option maxHeartbeats 400000 in
theorem parse_2p0 (w : World) : Calls Tryz.prog 107 #[.string ⟨#[50, 112, 48]⟩] w fun e w' => e = .returned (.tuple #[.int .u64 0, .int .i64 10]) ∧ Below w.heap.size w w' := by
  go_enter Tryz.func107, Tryz.ntmps107
  go_wp2_with (first
    | (go_at_call 75; refine (cutPrefix_no _ (by decide) ex_2p0 _).mono ?_; rintro e w' ⟨rfl, rfl⟩)
    | (go_at_call 164; refine (parseAmount_2p0 _).mono ?_; rintro e w1 ⟨rfl, hb1⟩))
  go_ret2
  exact ⟨rfl, hb1⟩
set_option maxHeartbeats 400000 in
theorem parse_1p1024 (w : World) : Calls Tryz.prog 107 #[.string ⟨#[49, 112, 49, 48, 50, 52]⟩] w fun e w' => e = .returned (.tuple #[.int .u64 0, .int .i64 11]) ∧ Below w.heap.size w w' := by
  go_enter Tryz.func107, Tryz.ntmps107
  go_wp2_with (first
    | (go_at_call 75; refine (cutPrefix_no _ (by decide) ex_1p1024 _).mono ?_; rintro e w' ⟨rfl, rfl⟩)
    | (go_at_call 164; refine (parseAmount_1p1024 _).mono ?_; rintro e w1 ⟨rfl, hb1⟩))
  go_ret2
  exact ⟨rfl, hb1⟩
end Go.Proofs.YtpgehocadohkiaaGreatDoor
end

section
namespace Go.Proofs.YtpgehocadohkiaaGreatDoor
open Go.RowKit

set_option maxHeartbeats 400000 in
theorem tz_any (x j z : Nat) (w : World) (hx : ((x : Int) == 0) = false)
    (hj : IntKind.u64.wrap (bits .and .u64 (x : Int) (IntKind.u64.wrap (-(x : Int))) * 285870213051353865) / 288230376151711744 = (j : Int)) (hl : j < 64)
    (hz : z < 256) (hc : w.cell? ⟨4, j, none⟩ = some (.int .u8 (z : Int))) :
    Calls Tryz.prog 182 #[.int .u64 (x : Int)] w fun e w' => e = .returned (.int .i64 (z : Int)) ∧ w' = w := by
  go_enter Tryz.func182, Tryz.ntmps182
  go_wp2
  go_ret
  exact ⟨rfl, rfl⟩
/-- what the one text's walk reads of the table of math/bits: the place of 2^50 -/
def tabPlace : Nat := (IntKind.u64.wrap (bits .and .u64 5629499534213120 (IntKind.u64.wrap (-5629499534213120)) * 285870213051353865) / 288230376151711744).toNat
def TabC (w : World) : Prop := w.cell? ⟨4, tabPlace, none⟩ = some (.int .u8 50)
theorem tz_5 (w : World) (h : TabC w) : Calls Tryz.prog 182 #[.int .u64 5629499534213120] w fun e w' => e = .returned (.int .i64 50) ∧ w' = w :=
  tz_any 5629499534213120 tabPlace 50 w (by decide) (by decide) (by decide) (by decide) h

set_option maxHeartbeats 400000 in
theorem oddAndPower_5 (w : World) (h : TabC w) : Calls Tryz.prog 157 #[.int .u64 4621819117588971520] w fun e w' => e = .returned (.tuple #[.int .u64 5, .int .i64 1]) ∧ w' = w := by
  have e1 : (fx 4621819117588971520 : Int) = 1026 := by decide
  have e2 : (fm 4621819117588971520 : Int) = 1125899906842624 := by decide
  have e3 : bits .or .u64 1125899906842624 4503599627370496 = 5629499534213120 := by decide
  go_enter Tryz.func157, Tryz.ntmps157
  go_wp2_with (first
    | (go_at_call 180; refine (fields_any 4621819117588971520 (by decide) _).mono ?_; rintro e w' ⟨rfl, rfl⟩)
    | (go_at_call 182; refine (tz_5 _ h).mono ?_; rintro e w' ⟨rfl, rfl⟩))
  go_ret2
  exact ⟨rfl, rfl⟩

theorem dd5 : (⟨(Lib.decDigits 5).toArray⟩ : ByteArray) = ⟨#[53]⟩ := by rw [Lib.decDigits_one (by decide)]; rfl
theorem dd1 : (⟨(Lib.decDigits 1).toArray⟩ : ByteArray) = ⟨#[49]⟩ := by rw [Lib.decDigits_one (by decide)]; rfl
theorem small_5 (w : World) : Calls Tryz.prog 95 #[.int .i64 5] w fun e w' => e = .returned (.string ⟨#[53]⟩) ∧ w' = w := by
  have := Tryz.internal_strconv_small 5 (by decide) w
  rw [dd5] at this
  exact this
theorem itoa_1 (w : World) : Calls Tryz.prog 22 #[.int .i64 1] w fun e w' => e = .returned (.string ⟨#[49]⟩) ∧ w' = w := by
  have := Tryz.strconv_Itoa_small 1 (by decide) w
  rw [dd1] at this
  exact this
set_option maxHeartbeats 400000 in
theorem formatUint_5 (w : World) : Calls Tryz.prog 72 #[.int .u64 5, .int .i64 10] w fun e w' => e = .returned (.string ⟨#[53]⟩) ∧ w' = w := by
  go_enter Tryz.func72, Tryz.ntmps72
  go_wp2_with (first
    | (go_at_call 95; refine (small_5 _).mono ?_; rintro e w' ⟨rfl, rfl⟩)
    | go_in)
  go_ret
  exact ⟨rfl, rfl⟩
set_option maxHeartbeats 400000 in
theorem amountText_5 (w : World) (h : TabC w) : Calls Tryz.prog 99 #[.int .u64 4621819117588971520] w fun e w' => e = .returned (.string ⟨#[53, 112, 49]⟩) ∧ w' = w := by
  have e1 : (clsN 4621819117588971520 : Int) = 4 := by decide
  go_enter Tryz.func99, Tryz.ntmps99
  go_wp2_with (first
    | (go_at_call 151; refine (class_any 4621819117588971520 (by decide) _).mono ?_; rintro e w' ⟨rfl, rfl⟩)
    | (go_at_call 157; refine (oddAndPower_5 _ h).mono ?_; rintro e w' ⟨rfl, rfl⟩)
    | (go_at_call 72; refine (formatUint_5 _).mono ?_; rintro e w' ⟨rfl, rfl⟩)
    | (go_at_call 22; refine (itoa_1 _).mono ?_; rintro e w' ⟨rfl, rfl⟩))
  go_ret
  exact ⟨rfl, rfl⟩
set_option maxHeartbeats 400000 in
theorem text_5 (w : World) (h : TabC w) : Calls Tryz.prog 71 #[.int .u64 4621819117588971520] w fun e w' => e = .returned (.string ⟨#[53, 112, 49]⟩) ∧ w' = w := by
  have e1 : (Gn.canonW 4621819117588971520 : Int) = 4621819117588971520 := by decide
  have e2 : bits .and .u64 4621819117588971520 9223372036854775808 = 0 := by decide
  go_enter Tryz.func71, Tryz.ntmps71
  go_wp2_with (first
    | (go_at_call 92; refine (canon_any 4621819117588971520 (by decide) _).mono ?_; rintro e w' ⟨rfl, rfl⟩)
    | (go_at_call 99; refine (amountText_5 _ h).mono ?_; rintro e w' ⟨rfl, rfl⟩))
  go_ret
  exact ⟨rfl, rfl⟩
end Go.Proofs.YtpgehocadohkiaaGreatDoor
end

section
namespace Go.Proofs.YtpgehocadohkiaaGreatDoor
open Go.RowKit

/-- a decimal digit; a whole number without a nought ahead; an odd one; a power -/
def digB (c : UInt8) : Bool := 48 ≤ c.toNat && c.toNat ≤ 57
def wholeB (s : ByteArray) : Bool := s.toList.all digB && (s.toList == [48] || !s.toList.isEmpty && s.toList.headD 0 != 48)
theorem all_step (s : ByteArray) (i : Nat) (h : i < s.size) : (s.toList.drop i).all digB = (digB s[i] && (s.toList.drop (i + 1)).all digB) := by
  rw [ByteArray.toList_eq]
  have h' : i < s.data.toList.length := h
  rw [List.drop_eq_getElem_cons h']
  rfl
theorem dig_no {c : UInt8} (h : (c.toNat : Int) < 48 ∨ 57 < (c.toNat : Int)) : digB c = false := by
  unfold digB
  simp only [Bool.and_eq_false_iff, decide_eq_false_iff_not]
  omega
theorem dig_yes {c : UInt8} (h : 48 ≤ (c.toNat : Int) ∧ (c.toNat : Int) ≤ 57) : digB c = true := by
  unfold digB
  simp only [Bool.and_eq_true, decide_eq_true_eq]
  omega
theorem head_is (s : ByteArray) (h : 0 < s.size) : s.toList.headD 0 = s[0] := by
  rw [ByteArray.toList_eq]
  have h' : 0 < s.data.toList.length := h
  have e : s.data.toList = s.data.toList[0] :: s.data.toList.drop 1 := by
    have := List.drop_eq_getElem_cons h'
    simpa using this
  rw [e]; rfl
theorem ne48 (c : UInt8) : ((c.toNat : Int) != 48) = (c != 48) := by
  by_cases h : c = 48
  · subst h; rfl
  · have h1 : c.toNat ≠ 48 := fun e => h (by apply UInt8.toNat_inj.mp; rw [e]; rfl)
    rw [bne_iff_ne.mpr h, bne_iff_ne.mpr (show (c.toNat : Int) ≠ 48 by omega)]

set_option maxHeartbeats 400000 in
theorem isWhole_any (s : ByteArray) (hm : s.size ≤ 9223372036854775807) (w : World) : Calls Tryz.prog 210 #[.string s] w fun e w' => e = .returned (.bool (wholeB s)) ∧ w' = w := by
  go_enter Tryz.func210, Tryz.ntmps210
  go_wp2
  go_loopw [6] (fun u wr => ∃ i : Nat, u = .int .i64 (i : Int) ∧ i ≤ s.size ∧ wr = w ∧ Hid (s.toList.all digB = (s.toList.drop i).all digB)) (fun u _ => (s.size - (intOf u).toNat))
  case atStart => exact ⟨0, rfl, Nat.zero_le _, rfl, rfl⟩
  case round =>
    obtain ⟨i, rfl, hi, rfl, HA⟩ := hrel
    by_cases hil : i < s.size
    · by_cases hd : 48 ≤ (s[i].toNat : Int) ∧ (s[i].toNat : Int) ≤ 57
      · obtain ⟨d1, d2⟩ := hd
        go_wp2
        refine ⟨⟨i + 1, by go_num, by omega, trivial, ?_⟩, by simp [intOf]; omega⟩
        exact HA.out.trans (by rw [all_step s i hil, dig_yes ⟨d1, d2⟩, Bool.true_and])
      · have hn : wholeB s = false := by
          unfold wholeB
          rw [HA.out, all_step s i hil, dig_no (by omega), Bool.false_and, Bool.false_and]
        clear HA
        by_cases h1 : (s[i].toNat : Int) < 48
        · go_wp2
          go_ret
          rw [hn]; exact ⟨rfl, rfl⟩
        · have h2 : 57 < (s[i].toNat : Int) := by omega
          clear hd
          go_wp2
          go_ret
          first | exact ⟨rfl, rfl⟩ | (rw [hn]; exact ⟨rfl, rfl⟩)
    · obtain rfl : i = s.size := by omega
      have ha : s.toList.all digB = true := by
        rw [HA.out, List.drop_eq_nil_of_le (by rw [ByteArray.toList_eq]; exact Nat.le_refl _)]; rfl
      clear HA
      by_cases h0 : 0 < s.size
      · have e2 : ¬ s.toList = [] := by
          rw [ByteArray.toList_eq]; intro h
          have := congrArg List.length h
          have h' : s.data.toList.length = s.size := rfl
          simp only [List.length_nil] at this; omega
        by_cases e1 : s.toList = [48]
        · have hn : wholeB s = true := by unfold wholeB; rw [ha, e1]; rfl
          clear ha
          go_wp2
          go_ret; rw [hn]; exact ⟨rfl, rfl⟩
        · have b1 : (s.toList == [48]) = false := by simpa using e1
          have b2 : s.toList.isEmpty = false := by simpa using e2
          have hn : wholeB s = ((s[0].toNat : Int) != 48) := by
            unfold wholeB; rw [ha, head_is s h0, ne48, Bool.true_and, b1, b2]; rfl
          clear ha
          go_wp2
          go_ret; rw [hn]; exact ⟨by first | rfl | simp [b1, b2], rfl⟩
      · have he : s.toList = [] := by rw [ByteArray.toList_eq]; exact List.eq_nil_of_length_eq_zero (by simpa using h0)
        have hn : wholeB s = false := by unfold wholeB; rw [ha, he]; rfl
        clear ha
        go_wp2
        go_ret
        rw [hn]; exact ⟨rfl, rfl⟩

def minusB (s : ByteArray) : Bool := (s.extract 0 1).toList == [45]
def powB (s : ByteArray) : Bool := if minusB s then wholeB (s.extract 1 s.size) && !((s.extract 1 s.size).toList == [48]) else wholeB s
theorem minus_none (s : ByteArray) (h : s.size = 0) : minusB s = false := by
  unfold minusB
  rw [Lib.extract_toList]
  have : s.data.toList = [] := List.eq_nil_of_length_eq_zero h
  rw [this]; rfl
theorem whole_size {s : ByteArray} (h : wholeB s = true) : 0 < s.size := by
  rcases Nat.eq_zero_or_pos s.size with h0 | h0
  · have e : s.toList = [] := by rw [ByteArray.toList_eq]; exact List.eq_nil_of_length_eq_zero h0
    unfold wholeB at h; rw [e] at h; cases h
  · exact h0
theorem cutPrefix_any (s : ByteArray) (w : World) : Calls Tryz.prog 75 #[.string s, .string ⟨#[45]⟩] w fun e w' => e = .returned (.tuple #[.string (if minusB s then s.extract 1 s.size else s), .bool (minusB s)]) ∧ w' = w := by
  rcases Nat.eq_zero_or_pos s.size with h0 | h0
  · rw [minus_none s h0]; exact cutPrefix_none s h0 w
  · cases h : minusB s
    · exact cutPrefix_no s h0 h w
    · exact cutPrefix_yes s h0 h w
set_option maxHeartbeats 400000 in
theorem isPower_any (s : ByteArray) (hm : s.size ≤ 9223372036854775807) (w : World) : Calls Tryz.prog 195 #[.string s] w fun e w' => e = .returned (.bool (powB s)) ∧ w' = w := by
  have HP := Lib.hid (cutPrefix_any s)
  unfold powB
  cases hb : minusB s
  · rw [hb] at HP
    have HW := Lib.hid (isWhole_any s hm)
    go_enter Tryz.func195, Tryz.ntmps195
    go_wp2_with fail
    refine (HP.out _).mono ?_
    rintro e w1 ⟨rfl, e1⟩
    subst e1
    go_wp2_with fail
    refine (HW.out _).mono ?_
    rintro e w2 ⟨rfl, e2⟩
    subst e2
    cases hw : wholeB s
    · go_wp2_with fail
      go_ret
      exact ⟨rfl, rfl⟩
    · go_wp2_with fail
      go_ret
      exact ⟨rfl, rfl⟩
  · rw [hb] at HP
    have hm1 : (s.extract 1 s.size).size ≤ 9223372036854775807 := by rw [ByteArray.size_extract]; omega
    have HW := Lib.hid (isWhole_any (s.extract 1 s.size) hm1)
    simp only [if_true] at HP ⊢
    generalize s.extract 1 s.size = t at *
    go_enter Tryz.func195, Tryz.ntmps195
    go_wp2_with fail
    refine (HP.out _).mono ?_
    rintro e w1 ⟨rfl, e1⟩
    subst e1
    go_wp2_with fail
    refine (HW.out _).mono ?_
    rintro e w2 ⟨rfl, e2⟩
    subst e2
    cases hw : wholeB t
    · go_wp2_with fail
      go_ret
      first | exact ⟨rfl, rfl⟩ | (rw [hw]; exact ⟨rfl, rfl⟩)
    · go_wp2_with fail
      go_ret
      first | exact ⟨rfl, rfl⟩ | (rw [hw]; exact ⟨rfl, rfl⟩)
theorem last_is (s : ByteArray) (h : 0 < s.size) : s.toList.getLastD 0 = s[s.size - 1] := by
  rw [ByteArray.toList_eq]
  have h' : s.data.toList.length = s.size := rfl
  have hne : s.data.toList ≠ [] := fun e => by rw [e] at h'; simp at h'; omega
  rw [List.getLastD_eq_getLast?, List.getLast?_eq_some_getLast hne, Option.getD_some, List.getLast_eq_getElem]
  rfl
theorem par_is (n : Nat) : (n % 2 == 1) = (((n : Int) - 48) % 2 == 1) := by
  by_cases h : n % 2 = 1
  · rw [beq_iff_eq.mpr h, beq_iff_eq.mpr (show ((n : Int) - 48) % 2 = 1 by omega)]
  · rw [beq_eq_false_iff_ne.mpr h, beq_eq_false_iff_ne.mpr (show ¬ ((n : Int) - 48) % 2 = 1 by omega)]
def oddB (s : ByteArray) : Bool := wholeB s && (s.toList.getLastD 0).toNat % 2 == 1
set_option maxHeartbeats 400000 in
theorem isOdd_any (s : ByteArray) (hm : s.size ≤ 9223372036854775807) (w : World) : Calls Tryz.prog 194 #[.string s] w fun e w' => e = .returned (.bool (oddB s)) ∧ w' = w := by
  have HW := Lib.hid (isWhole_any s hm)
  cases hw : wholeB s
  · have hn : oddB s = false := by unfold oddB; rw [hw]; rfl
    rw [hn]
    rw [hw] at HW
    go_enter Tryz.func194, Tryz.ntmps194
    go_wp2_with fail
    refine (HW.out _).mono ?_
    rintro e w2 ⟨rfl, e2⟩
    subst e2
    go_wp2_with fail
    go_ret
    exact ⟨rfl, rfl⟩
  · have h0 := whole_size hw
    rw [hw] at HW
    go_enter Tryz.func194, Tryz.ntmps194
    go_wp2_with fail
    refine (HW.out _).mono ?_
    rintro e w2 ⟨rfl, e2⟩
    subst e2
    go_wp2_with fail
    go_ret
    have hn : oddB s = (((s[s.size - 1].toNat : Int) - 48) % 2 == 1) := by
      unfold oddB; rw [hw, last_is s h0, Bool.true_and]; exact par_is _
    rw [hn]
    exact ⟨rfl, rfl⟩
end Go.Proofs.YtpgehocadohkiaaGreatDoor
end

section
namespace Go.Proofs.YtpgehocadohkiaaGreatDoor
open Go.RowKit

theorem ord_f {r q : Nat} (hr : r ≤ 9218868437227405312) (hq : q ≤ 9218868437227405312) : FloatKind.f64.format.order r q = some (compare (Gn.vl r : Int) (Gn.vl q)) := by
  have h1 := Gn.read_wd false r (by omega)
  have h2 := Gn.read_wd false q (by omega)
  rw [Gn.wd_f] at h1 h2
  show (Ieee.double.read r).order (Ieee.double.read q) = _
  rw [h1, h2, Gn.order_rd false false r q hr hq]; rfl
/-- math.Ldexp of a whole number below 2^53: exact -/
theorem ldexp_any (n x : Nat) (k : Int) (hn : 1 ≤ n) (hx : x < 9218868437227405312) (hv : Gn.vl x = n * Gn.UU) (hn2 : n < 9007199254740992) (hk : -1074 ≤ k) (hk2 : k + n.log2 ≤ 1023) (w : World) :
    Calls Tryz.prog 197 #[.float .f64 x, .int .i64 k] w fun e w' => e = .returned (.float .f64 (Gn.rn (n * 2 ^ (k + 1074).toNat))) ∧ w' = w := by
  obtain ⟨hb, _⟩ := Gn.parts hn hv
  have hE := Gn.place_is hn hv
  have hlow : lowW x = x := by unfold lowW; omega
  have hfx : fx x = x / 4503599627370496 := by unfold fx; omega
  have hfm : fm x + (x / 4503599627370496) * 4503599627370496 = x := by unfold fm; omega
  have hl53 : n.log2 ≤ 52 := by
    have := (Nat.log2_lt (n := n) (k := 53) (by omega)).2 (by omega)
    omega
  have vmax : Gn.vl x ≤ Gn.vl 9218868437227405311 := by
    rcases Nat.lt_or_ge x 9218868437227405311 with h | h
    · exact Nat.le_of_lt (Gn.vl_lt h)
    · rw [show x = 9218868437227405311 by omega]; exact Nat.le_refl _
  have vmin : Gn.vl 4503599627370496 ≤ Gn.vl x := by
    rcases Nat.lt_or_ge 4503599627370496 x with h | h
    · exact Nat.le_of_lt (Gn.vl_lt h)
    · rw [show x = 4503599627370496 by omega]; exact Nat.le_refl _
  have vpos : 0 < Gn.vl x := Gn.vl_pos (by omega)
  have t1 : (FloatKind.f64.format.order x 0 == some .eq) = false := by
    rw [ord_f (by omega) (by omega), Gn.vl_zero, Gn.cmp_gt (by omega)]; rfl
  have t2 : (FloatKind.f64.format.order (lowW x) 9218868437227405311 == some .gt) = false := by
    rw [hlow, ord_f (by omega) (by omega)]
    rcases Nat.lt_or_ge (Gn.vl x) (Gn.vl 9218868437227405311) with h | h
    · rw [Gn.cmp_lt (by omega)]; rfl
    · rw [Gn.cmp_eq (by omega)]; rfl
  have t3 : (FloatKind.f64.format.order x x != some .eq) = false := by
    rw [ord_f (by omega) (by omega), Gn.cmp_eq rfl]; rfl
  have t4 : (FloatKind.f64.format.order (lowW x) 4503599627370496 == some .lt) = false := by
    rw [hlow, ord_f (by omega) (by omega)]
    rcases Nat.lt_or_ge (Gn.vl 4503599627370496) (Gn.vl x) with h | h
    · rw [Gn.cmp_gt (by omega)]; rfl
    · rw [Gn.cmp_eq (by omega)]; rfl
  rcases Int.lt_or_le (k + (fx x - 1023)) (-1022) with hs | hs
  · obtain ⟨y, hy⟩ : ∃ y : Nat, (y : Int) = x + (k + 53) * 4503599627370496 := ⟨(x + (k + 53) * 4503599627370496 : Int).toNat, by omega⟩
    have hyv := Gn.moved hn hv (k + 53) y hy (by omega) (by omega)
    have hyv2 : Gn.vl y = n * 2 ^ (k + 1074).toNat * 2 ^ 53 := by
      rw [hyv, Nat.mul_assoc, ← Nat.pow_add, show (k + 53 + 1074).toNat = (k + 1074).toNat + 53 by omega]
    refine ldexp_of (fun w => ldexpIn_low x (by omega) k (by omega) (by omega) w t1 t2 t3 t4 (by omega) hs y _ (by omega) (Gn.mul_small (by omega) hyv2)) w
  · obtain ⟨y, hy⟩ : ∃ y : Nat, (y : Int) = x + k * 4503599627370496 := ⟨(x + k * 4503599627370496 : Int).toNat, by omega⟩
    have hyv := Gn.moved hn hv k y hy (by omega) (by omega)
    have hyl : y < 9218868437227405312 := by omega
    rw [← hyv, Gn.rn_vl hyl]
    exact ldexp_of (fun w => ldexpIn_mid x (by omega) k (by omega) (by omega) w t1 t2 t3 t4 hs (by omega) y y (by omega) (Gn.mul_one hyl)) w
end Go.Proofs.YtpgehocadohkiaaGreatDoor
end

section
namespace Go.Proofs.YtpgehocadohkiaaGreatDoor
open Go.RowKit

/-- what digits spell -/
def dec (acc : Nat) : List UInt8 → Nat
  | [] => acc
  | c :: r => dec (acc * 10 + (c.toNat - 48)) r
theorem dig_val {c : UInt8} (h : digB c = true) : 48 ≤ c.toNat ∧ c.toNat ≤ 57 := by
  unfold digB at h
  simp only [Bool.and_eq_true, decide_eq_true_eq] at h
  exact h
theorem decFrom_dig : ∀ (l : List UInt8) (acc : Nat), l.all digB = true → Lib.decFrom acc l = some (dec acc l)
  | [], acc, _ => rfl
  | c :: r, acc, h => by
    simp only [List.all_cons, Bool.and_eq_true] at h
    have hd := dig_val h.1
    have e : Lib.digitVal c = some (c.toNat - 48) := if_pos hd
    rw [Lib.decFrom, e]
    show Lib.decFrom (acc * 10 + (c.toNat - 48)) r = some (dec (acc * 10 + (c.toNat - 48)) r)
    exact decFrom_dig r _ h.2
theorem dec_lt : ∀ (l : List UInt8) (acc j : Nat), l.all digB = true → acc < 10 ^ j → dec acc l < 10 ^ (j + l.length)
  | [], acc, j, _, ha => ha
  | c :: r, acc, j, h, ha => by
    simp only [List.all_cons, Bool.and_eq_true] at h
    have hd := dig_val h.1
    have h1 : acc * 10 + (c.toNat - 48) < 10 ^ (j + 1) := by rw [Nat.pow_succ]; omega
    have h2 := dec_lt r _ (j + 1) h.2 h1
    rw [List.length_cons, show j + (r.length + 1) = j + 1 + r.length by omega]
    exact h2
theorem pu_dig (M : Nat) (hM : 9999999999999999999 ≤ M) : ∀ (l : List UInt8) (acc j : Nat), l.all digB = true → acc < 10 ^ j → j + l.length ≤ 18 → Lib.parseUintM M acc l = .ok (dec acc l)
  | [], acc, j, _, _, _ => rfl
  | c :: r, acc, j, h, ha, hl => by
    simp only [List.all_cons, Bool.and_eq_true] at h
    rw [List.length_cons] at hl
    have hd := dig_val h.1
    have hp : 10 ^ j ≤ 10 ^ 17 := Nat.pow_le_pow_right (by omega) (by omega)
    have hq : (10 : Nat) ^ 17 = 100000000000000000 := by decide
    have h1 : acc * 10 + (c.toNat - 48) < 10 ^ (j + 1) := by rw [Nat.pow_succ]; omega
    rw [Lib.parseUintM, if_pos hd, if_neg (by omega), if_neg (by omega)]
    show _ = Lib.NumEnd.ok (dec (acc * 10 + (c.toNat - 48)) r)
    exact pu_dig M hM r _ (j + 1) h.2 h1 (by omega)
theorem len_log {n : Nat} (h0 : 1 ≤ n) (h : n < 18446744073709551616) : Lib.bitLen n = n.log2 + 1 := by
  have hl : 2 ^ n.log2 ≤ n := Nat.log2_self_le (by omega)
  have hu : n < 2 ^ (n.log2 + 1) := Nat.lt_log2_self
  rw [Lib.bitLen_shift n.log2 n hl h]
  have e : n / 2 ^ n.log2 = 1 := by
    have := Nat.two_pow_pos n.log2
    rw [Nat.pow_succ] at hu
    exact Nat.div_eq_of_lt_le (by omega) (by omega)
  rw [e]; rfl
/-- the number that a text of a whole number, of a power spells -/
def numD (s : ByteArray) : Nat := dec 0 s.toList
def powV (s : ByteArray) : Int := if minusB s then -(numD (s.extract 1 s.size) : Int) else numD s
theorem whole_all {s : ByteArray} (h : wholeB s = true) : s.toList.all digB = true := by
  unfold wholeB at h
  simp only [Bool.and_eq_true] at h
  exact h.1
theorem size_list (s : ByteArray) : s.toList.length = s.size := by rw [ByteArray.toList_eq]; rfl
theorem pu_whole {s : ByteArray} (h : wholeB s = true) (hl : s.size ≤ 16) : Lib.parseUintB 64 s.data.toList = .ok (numD s) := by
  have hs := whole_size h
  have ha := whole_all h
  unfold numD
  have hl2 := size_list s
  rw [ByteArray.toList_eq] at *
  unfold Lib.parseUintB
  rw [if_neg (fun e => by rw [e] at hl2; simp at hl2; omega)]
  exact pu_dig _ (by decide) _ 0 0 ha (by decide) (by omega)
theorem numD_lt {s : ByteArray} (h : wholeB s = true) : numD s < 10 ^ s.size := by
  have := dec_lt s.toList 0 0 (whole_all h) (by decide)
  rw [size_list, Nat.zero_add] at this
  exact this
theorem decNat_whole {s : ByteArray} (h : wholeB s = true) : Lib.decNat s.data.toList = some (numD s) := by
  have hs := whole_size h
  have ha := whole_all h
  have hl2 := size_list s
  unfold numD
  rw [ByteArray.toList_eq] at *
  unfold Lib.decNat
  rw [if_neg (fun e => by rw [List.isEmpty_iff.1 e] at hl2; simp at hl2; omega)]
  exact decFrom_dig _ 0 ha
theorem atoi_pow {s : ByteArray} (h : powB s = true) : Lib.atoi s.data.toList = some (powV s) := by
  unfold powB at h
  unfold powV
  cases hm : minusB s
  · rw [hm] at h
    have hw : wholeB s = true := h
    have hd := decNat_whole hw
    have ha := whole_all hw
    have hs := whole_size hw
    rw [ByteArray.toList_eq] at ha
    have hl : s.data.toList.length = s.size := rfl
    cases hc : s.data.toList with
    | nil => rw [hc] at hl; simp at hl; omega
    | cons c r =>
      rw [hc] at hd ha
      simp only [List.all_cons, Bool.and_eq_true] at ha
      have hv := dig_val ha.1
      have n1 : (c == 45) = false := by
        rw [beq_eq_false_iff_ne]; intro e; subst e; revert hv; decide
      have n2 : (c == 43) = false := by
        rw [beq_eq_false_iff_ne]; intro e; subst e; revert hv; decide
      unfold Lib.atoi
      simp only [n1, n2, hd, Option.map_some, if_false, Bool.false_eq_true]
  · rw [hm] at h
    have hw : wholeB (s.extract 1 s.size) = true := by
      simp only [if_true, Bool.and_eq_true] at h; exact h.1
    have hd := decNat_whole hw
    have he : (s.extract 1 s.size).data.toList = s.data.toList.drop 1 := by
      rw [← ByteArray.toList_eq, Lib.extract_toList, List.take_of_length_le]
      rw [List.length_drop]; exact Nat.le_refl _
    rw [he] at hd
    unfold minusB at hm
    rw [Lib.extract_toList] at hm
    cases hc : s.data.toList with
    | nil => rw [hc] at hm; cases hm
    | cons c r =>
      rw [hc] at hm hd
      have e1 : (c == 45) = true := by simpa using hm
      unfold Lib.atoi
      simp only [e1, if_true]
      rw [show r = (c :: r).drop 1 from rfl, hd]; rfl
end Go.Proofs.YtpgehocadohkiaaGreatDoor
end

section
namespace Go.Proofs.YtpgehocadohkiaaGreatDoor
open Go.RowKit

def xw (n : Nat) : Nat := floatOfInt .f64 (n : Int)
theorem xw_is (n : Nat) : floatOfInt .f64 (n : Int) = xw n := rfl
/-- what parseAmount answers -/
def valP (n : Nat) (k : Int) : Nat × Int := if 9007199254740992 ≤ n ∨ k < -1074 ∨ 1024 < k + (Lib.bitLen n : Int) then (0, 11) else (Gn.rn (n * 2 ^ (k + 1074).toNat), 0)
def cutP (o p : ByteArray) : Nat × Int := if (oddB o && powB p) = false then (0, 10) else if 16 < o.size ∨ 5 < p.size then (0, 11) else valP (numD o) (powV p)
def amtP (s : ByteArray) : Nat × Int := if s.toList = [105, 110, 102] then (9218868437227405312, 0) else if s.toList = [48] then (0, 0) else if firstIdx s 112 < 0 then (0, 10) else cutP (s.extract 0 (firstIdx s 112).toNat) (s.extract ((firstIdx s 112).toNat + 1) s.size)
theorem dec_append : ∀ (l : List UInt8) (acc : Nat) (c : UInt8), dec acc (l ++ [c]) = dec acc l * 10 + (c.toNat - 48)
  | [], _, _ => rfl
  | d :: r, acc, c => by
    show dec (acc * 10 + (d.toNat - 48)) (r ++ [c]) = dec (acc * 10 + (d.toNat - 48)) r * 10 + (c.toNat - 48)
    exact dec_append r _ c
theorem odd_whole {s : ByteArray} (h : oddB s = true) : wholeB s = true := by
  unfold oddB at h; simp only [Bool.and_eq_true] at h; exact h.1
theorem odd_num {s : ByteArray} (h : oddB s = true) : numD s % 2 = 1 := by
  have hw := odd_whole h
  have ha := whole_all hw
  have hs := whole_size hw
  have hl := size_list s
  unfold oddB at h
  simp only [Bool.and_eq_true, beq_iff_eq] at h
  have h2 := h.2
  unfold numD
  have hne : s.toList ≠ [] := fun e => by rw [e] at hl; simp at hl; omega
  rw [← List.dropLast_concat_getLast hne] at ha ⊢
  rw [List.all_append, Bool.and_eq_true] at ha
  have hd : digB (s.toList.getLast hne) = true := by simpa using ha.2
  have hv := dig_val hd
  rw [List.getLastD_eq_getLast?, List.getLast?_eq_some_getLast hne, Option.getD_some] at h2
  rw [dec_append]
  omega
theorem first_cases (s : ByteArray) (c : UInt8) : firstIdx s c = -1 ∨ ∃ i : Nat, firstIdx s c = (i : Int) ∧ i + 1 ≤ s.size := by
  unfold firstIdx
  cases h : (List.range s.size).find? fun i => s[i]! == c with
  | none => exact Or.inl rfl
  | some i =>
    have := List.mem_of_find?_eq_some h
    rw [List.mem_range] at this
    exact Or.inr ⟨i, rfl, this⟩
theorem list_mk {s : ByteArray} {l : List UInt8} (h : s.toList = l) : s = ⟨l.toArray⟩ := by
  rw [ByteArray.toList_eq] at h
  cases s with | mk d => cases d; simp at h; rw [h]
set_option maxHeartbeats 400000 in
theorem pa_inf (w : World) : Calls Tryz.prog 164 #[.string ⟨#[105, 110, 102]⟩] w fun e w' => e = .returned (.tuple #[.int .u64 9218868437227405312, .int .i64 0]) ∧ w' = w := by
  go_enter Tryz.func164, Tryz.ntmps164
  go_wp2_with fail
  go_ret2
  exact ⟨rfl, rfl⟩
set_option maxHeartbeats 400000 in
theorem pa_zero (w : World) : Calls Tryz.prog 164 #[.string ⟨#[48]⟩] w fun e w' => e = .returned (.tuple #[.int .u64 0, .int .i64 0]) ∧ w' = w := by
  go_enter Tryz.func164, Tryz.ntmps164
  go_wp2_with fail
  go_ret2
  exact ⟨rfl, rfl⟩
set_option maxHeartbeats 400000 in
theorem pa_nop (s : ByteArray) (h1 : (s.toList == [105, 110, 102]) = false) (h2 : (s.toList == [48]) = false) (hi : firstIdx s 112 = -1) (w : World) : Calls Tryz.prog 164 #[.string s] w fun e w' => e = .returned (.tuple #[.int .u64 0, .int .i64 10]) ∧ w' = w := by
  have HC := Lib.hid (cut_no s hi)
  clear hi
  go_enter Tryz.func164, Tryz.ntmps164
  go_wp2_with fail
  refine (HC.out _).mono ?_
  rintro e w1 ⟨rfl, e1⟩
  subst e1
  go_wp2_with fail
  go_ret2
  exact ⟨rfl, rfl⟩

set_option maxHeartbeats 400000 in
set_option maxRecDepth 8000 in
theorem pa_odd (s o p : ByteArray) (h1 : (s.toList == [105, 110, 102]) = false) (h2 : (s.toList == [48]) = false) (HC : Hid (∀ w : World, Calls Tryz.prog 193 #[.string s, .string ⟨#[112]⟩] w fun e w' => e = .returned (.tuple #[.string o, .string p, .bool true]) ∧ ∃ n, w' = w.drewN n)) (HO : Hid (∀ w : World, Calls Tryz.prog 194 #[.string o] w fun e w' => e = .returned (.bool false) ∧ w' = w)) (w : World) : Calls Tryz.prog 164 #[.string s] w fun e w' => e = .returned (.tuple #[.int .u64 0, .int .i64 10]) ∧ Below w.heap.size w w' := by
  go_enter Tryz.func164, Tryz.ntmps164
  go_wp2_with fail
  refine (HC.out _).mono ?_
  rintro e w1 ⟨rfl, n1, e1⟩
  subst e1
  go_wp2_with fail
  refine (HO.out _).mono ?_
  rintro e w2 ⟨rfl, e2⟩
  subst e2
  go_wp2_with fail
  go_ret2
  exact ⟨rfl, bd _ _⟩

set_option maxHeartbeats 400000 in
set_option maxRecDepth 8000 in
theorem pa_pow (s o p : ByteArray) (h1 : (s.toList == [105, 110, 102]) = false) (h2 : (s.toList == [48]) = false) (HC : Hid (∀ w : World, Calls Tryz.prog 193 #[.string s, .string ⟨#[112]⟩] w fun e w' => e = .returned (.tuple #[.string o, .string p, .bool true]) ∧ ∃ n, w' = w.drewN n)) (HO : Hid (∀ w : World, Calls Tryz.prog 194 #[.string o] w fun e w' => e = .returned (.bool true) ∧ w' = w)) (HP : Hid (∀ w : World, Calls Tryz.prog 195 #[.string p] w fun e w' => e = .returned (.bool false) ∧ w' = w)) (w : World) : Calls Tryz.prog 164 #[.string s] w fun e w' => e = .returned (.tuple #[.int .u64 0, .int .i64 10]) ∧ Below w.heap.size w w' := by
  go_enter Tryz.func164, Tryz.ntmps164
  go_wp2_with fail
  refine (HC.out _).mono ?_
  rintro e w1 ⟨rfl, n1, e1⟩
  subst e1
  go_wp2_with fail
  refine (HO.out _).mono ?_
  rintro e w2 ⟨rfl, e2⟩
  subst e2
  go_wp2_with fail
  refine (HP.out _).mono ?_
  rintro e w3 ⟨rfl, e3⟩
  subst e3
  go_wp2_with fail
  go_ret2
  exact ⟨rfl, bd _ _⟩

set_option maxHeartbeats 400000 in
set_option maxRecDepth 8000 in
theorem pa_long (s o p : ByteArray) (h1 : (s.toList == [105, 110, 102]) = false) (h2 : (s.toList == [48]) = false) (HC : Hid (∀ w : World, Calls Tryz.prog 193 #[.string s, .string ⟨#[112]⟩] w fun e w' => e = .returned (.tuple #[.string o, .string p, .bool true]) ∧ ∃ n, w' = w.drewN n)) (HO : Hid (∀ w : World, Calls Tryz.prog 194 #[.string o] w fun e w' => e = .returned (.bool true) ∧ w' = w)) (HP : Hid (∀ w : World, Calls Tryz.prog 195 #[.string p] w fun e w' => e = .returned (.bool true) ∧ w' = w)) (hl : 16 < o.size) (w : World) : Calls Tryz.prog 164 #[.string s] w fun e w' => e = .returned (.tuple #[.int .u64 0, .int .i64 11]) ∧ Below w.heap.size w w' := by
  go_enter Tryz.func164, Tryz.ntmps164
  go_wp2_with fail
  refine (HC.out _).mono ?_
  rintro e w1 ⟨rfl, n1, e1⟩
  subst e1
  go_wp2_with fail
  refine (HO.out _).mono ?_
  rintro e w2 ⟨rfl, e2⟩
  subst e2
  go_wp2_with fail
  refine (HP.out _).mono ?_
  rintro e w3 ⟨rfl, e3⟩
  subst e3
  go_wp2_with fail
  go_ret2
  exact ⟨rfl, bd _ _⟩

set_option maxHeartbeats 400000 in
set_option maxRecDepth 8000 in
theorem pa_longp (s o p : ByteArray) (h1 : (s.toList == [105, 110, 102]) = false) (h2 : (s.toList == [48]) = false) (HC : Hid (∀ w : World, Calls Tryz.prog 193 #[.string s, .string ⟨#[112]⟩] w fun e w' => e = .returned (.tuple #[.string o, .string p, .bool true]) ∧ ∃ n, w' = w.drewN n)) (HO : Hid (∀ w : World, Calls Tryz.prog 194 #[.string o] w fun e w' => e = .returned (.bool true) ∧ w' = w)) (HP : Hid (∀ w : World, Calls Tryz.prog 195 #[.string p] w fun e w' => e = .returned (.bool true) ∧ w' = w)) (hl : o.size ≤ 16) (hl2 : 5 < p.size) (w : World) : Calls Tryz.prog 164 #[.string s] w fun e w' => e = .returned (.tuple #[.int .u64 0, .int .i64 11]) ∧ Below w.heap.size w w' := by
  go_enter Tryz.func164, Tryz.ntmps164
  go_wp2_with fail
  refine (HC.out _).mono ?_
  rintro e w1 ⟨rfl, n1, e1⟩
  subst e1
  go_wp2_with fail
  refine (HO.out _).mono ?_
  rintro e w2 ⟨rfl, e2⟩
  subst e2
  go_wp2_with fail
  refine (HP.out _).mono ?_
  rintro e w3 ⟨rfl, e3⟩
  subst e3
  go_wp2_with fail
  go_ret2
  exact ⟨rfl, bd _ _⟩

set_option maxHeartbeats 400000 in
set_option maxRecDepth 8000 in
theorem pa_big (s o p : ByteArray) (n : Nat) (k : Int) (h1 : (s.toList == [105, 110, 102]) = false) (h2 : (s.toList == [48]) = false) (HC : Hid (∀ w : World, Calls Tryz.prog 193 #[.string s, .string ⟨#[112]⟩] w fun e w' => e = .returned (.tuple #[.string o, .string p, .bool true]) ∧ ∃ n, w' = w.drewN n)) (HO : Hid (∀ w : World, Calls Tryz.prog 194 #[.string o] w fun e w' => e = .returned (.bool true) ∧ w' = w)) (HP : Hid (∀ w : World, Calls Tryz.prog 195 #[.string p] w fun e w' => e = .returned (.bool true) ∧ w' = w)) (HU : Hid (∀ w : World, Calls Tryz.prog 104 #[.string o, .int .i64 10, .int .i64 64] w fun e w' => e = .returned (.tuple #[.int .u64 (n : Int), .nilIface]) ∧ Below w.heap.size w w')) (HT : Hid (∀ w : World, Calls Tryz.prog 196 #[.string p] w fun e w' => e = .returned (.tuple #[.int .i64 k, .nilIface]) ∧ Below w.heap.size w w')) (hl : o.size ≤ 16) (hl2 : p.size ≤ 5) (hn : (9007199254740992 : Int) ≤ (n : Int)) (w : World) : Calls Tryz.prog 164 #[.string s] w fun e w' => e = .returned (.tuple #[.int .u64 0, .int .i64 11]) ∧ Below w.heap.size w w' := by
  go_enter Tryz.func164, Tryz.ntmps164
  go_wp2_with fail
  refine (HC.out _).mono ?_
  rintro e w1 ⟨rfl, n1, e1⟩
  subst e1
  go_wp2_with fail
  refine (HO.out _).mono ?_
  rintro e w2 ⟨rfl, e2⟩
  subst e2
  go_wp2_with fail
  refine (HP.out _).mono ?_
  rintro e w3 ⟨rfl, e3⟩
  subst e3
  go_wp2_with fail
  refine (HU.out _).mono ?_
  rintro e w4 ⟨rfl, b4⟩
  have B4 := Lib.hid b4
  clear b4
  go_wp2_with fail
  refine (HT.out _).mono ?_
  rintro e w5 ⟨rfl, b5⟩
  have B5 := Lib.hid b5
  clear b5
  go_wp2_with fail
  go_ret2
  exact ⟨rfl, bt (bt (bd _ _) B4.out) B5.out⟩

set_option maxHeartbeats 400000 in
set_option maxRecDepth 8000 in
theorem pa_low (s o p : ByteArray) (n : Nat) (k : Int) (h1 : (s.toList == [105, 110, 102]) = false) (h2 : (s.toList == [48]) = false) (HC : Hid (∀ w : World, Calls Tryz.prog 193 #[.string s, .string ⟨#[112]⟩] w fun e w' => e = .returned (.tuple #[.string o, .string p, .bool true]) ∧ ∃ n, w' = w.drewN n)) (HO : Hid (∀ w : World, Calls Tryz.prog 194 #[.string o] w fun e w' => e = .returned (.bool true) ∧ w' = w)) (HP : Hid (∀ w : World, Calls Tryz.prog 195 #[.string p] w fun e w' => e = .returned (.bool true) ∧ w' = w)) (HU : Hid (∀ w : World, Calls Tryz.prog 104 #[.string o, .int .i64 10, .int .i64 64] w fun e w' => e = .returned (.tuple #[.int .u64 (n : Int), .nilIface]) ∧ Below w.heap.size w w')) (HT : Hid (∀ w : World, Calls Tryz.prog 196 #[.string p] w fun e w' => e = .returned (.tuple #[.int .i64 k, .nilIface]) ∧ Below w.heap.size w w')) (hl : o.size ≤ 16) (hl2 : p.size ≤ 5) (HK : Hid (¬ (9007199254740992 : Int) ≤ (n : Int) ∧ k < -1074)) (w : World) : Calls Tryz.prog 164 #[.string s] w fun e w' => e = .returned (.tuple #[.int .u64 0, .int .i64 11]) ∧ Below w.heap.size w w' := by
  go_enter Tryz.func164, Tryz.ntmps164
  go_wp2_with fail
  refine (HC.out _).mono ?_
  rintro e w1 ⟨rfl, n1, e1⟩
  subst e1
  go_wp2_with fail
  refine (HO.out _).mono ?_
  rintro e w2 ⟨rfl, e2⟩
  subst e2
  go_wp2_with fail
  refine (HP.out _).mono ?_
  rintro e w3 ⟨rfl, e3⟩
  subst e3
  go_wp2_with fail
  refine (HU.out _).mono ?_
  rintro e w4 ⟨rfl, b4⟩
  have B4 := Lib.hid b4
  clear b4
  go_wp2_with fail
  refine (HT.out _).mono ?_
  rintro e w5 ⟨rfl, b5⟩
  have B5 := Lib.hid b5
  clear b5
  obtain ⟨hn, hk⟩ := HK.out
  go_wp2_with fail
  go_ret2
  exact ⟨rfl, bt (bt (bd _ _) B4.out) B5.out⟩

set_option maxHeartbeats 400000 in
set_option maxRecDepth 8000 in
theorem pa_high (s o p : ByteArray) (n : Nat) (k : Int) (L : Nat) (h1 : (s.toList == [105, 110, 102]) = false) (h2 : (s.toList == [48]) = false) (HC : Hid (∀ w : World, Calls Tryz.prog 193 #[.string s, .string ⟨#[112]⟩] w fun e w' => e = .returned (.tuple #[.string o, .string p, .bool true]) ∧ ∃ n, w' = w.drewN n)) (HO : Hid (∀ w : World, Calls Tryz.prog 194 #[.string o] w fun e w' => e = .returned (.bool true) ∧ w' = w)) (HP : Hid (∀ w : World, Calls Tryz.prog 195 #[.string p] w fun e w' => e = .returned (.bool true) ∧ w' = w)) (HU : Hid (∀ w : World, Calls Tryz.prog 104 #[.string o, .int .i64 10, .int .i64 64] w fun e w' => e = .returned (.tuple #[.int .u64 (n : Int), .nilIface]) ∧ Below w.heap.size w w')) (HT : Hid (∀ w : World, Calls Tryz.prog 196 #[.string p] w fun e w' => e = .returned (.tuple #[.int .i64 k, .nilIface]) ∧ Below w.heap.size w w')) (HN : Hid (∀ w : World, Calls Tryz.prog 153 #[.int .u64 (n : Int)] w fun e w' => e = .returned (.int .i64 (L : Int)) ∧ w' = w)) (hl : o.size ≤ 16) (hl2 : p.size ≤ 5) (HK : Hid (¬ (9007199254740992 : Int) ≤ (n : Int) ∧ ¬ k < -1074 ∧ 1024 < k + (L : Int) ∧ k ≤ 100000 ∧ L ≤ 64)) (w : World) : Calls Tryz.prog 164 #[.string s] w fun e w' => e = .returned (.tuple #[.int .u64 0, .int .i64 11]) ∧ Below w.heap.size w w' := by
  go_enter Tryz.func164, Tryz.ntmps164
  go_wp2_with fail
  refine (HC.out _).mono ?_
  rintro e w1 ⟨rfl, n1, e1⟩
  subst e1
  go_wp2_with fail
  refine (HO.out _).mono ?_
  rintro e w2 ⟨rfl, e2⟩
  subst e2
  go_wp2_with fail
  refine (HP.out _).mono ?_
  rintro e w3 ⟨rfl, e3⟩
  subst e3
  go_wp2_with fail
  refine (HU.out _).mono ?_
  rintro e w4 ⟨rfl, b4⟩
  have B4 := Lib.hid b4
  clear b4
  go_wp2_with fail
  refine (HT.out _).mono ?_
  rintro e w5 ⟨rfl, b5⟩
  have B5 := Lib.hid b5
  clear b5
  obtain ⟨hn, hk, hh, hk2, hL⟩ := HK.out
  go_wp2_with fail
  refine (HN.out _).mono ?_
  rintro e w6 ⟨rfl, e6⟩
  subst e6
  go_wp2_with fail
  go_ret2
  exact ⟨rfl, bt (bt (bd _ _) B4.out) B5.out⟩

end Go.Proofs.YtpgehocadohkiaaGreatDoor
end
