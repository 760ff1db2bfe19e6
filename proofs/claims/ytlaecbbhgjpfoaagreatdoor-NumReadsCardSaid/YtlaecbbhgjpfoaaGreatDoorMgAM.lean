import Derived.Test.YtlaecbbhgjpfoaaGreatDoorMgAK
import Derived.Test.YtlaecbbhgjpfoaaGreatDoorMgAI

section
namespace Go.Proofs.YtlaecbbhgjpfoaaGreatDoor
open Go.RowKit

/-- digits ahead, and their number as the document's run tells it -/
def satF (x : Nat) (c : UInt8) : Nat := if x < 288230376151711744 then 10 * x + (c.toNat - 48) else 4611686018427387904
def satL (l : List UInt8) : Nat := l.foldl satF 0
def digL (s : ByteArray) : List UInt8 := s.toList.takeWhile digB
def isR (s : ByteArray) : Bool := (digL s).length == 1 || (decide (1 < (digL s).length) && s.toList.headD 0 != 48)
theorem satL_snoc (l : List UInt8) (c : UInt8) : satL (l ++ [c]) = satF (satL l) c := by unfold satL; rw [List.foldl_append]; rfl
theorem satF_le {x : Nat} {c : UInt8} (h : digB c = true) : satF x c ≤ 4611686018427387904 := by
  have := dig_val h
  unfold satF
  split <;> omega
theorem while_take {p : UInt8 → Bool} : ∀ (l : List UInt8) (k : Nat), (l.take k).all p = true → (∀ c, l[k]? = some c → p c = false) → l.takeWhile p = l.take k
  | [], k, _, _ => by simp
  | c :: r, 0, _, h => by
    have := h c rfl
    rw [List.takeWhile_cons, this]
    rfl
  | c :: r, k + 1, ha, h => by
    rw [List.take_succ_cons, List.all_cons, Bool.and_eq_true] at ha
    rw [List.takeWhile_cons, ha.1, List.take_succ_cons, while_take r k ha.2 (fun d hd => h d (by simpa using hd))]
    rfl
theorem byte_at (s : ByteArray) (k : Nat) (h : k < s.size) : s.toList[k]? = some s[k] := by
  rw [ByteArray.toList_eq]
  have h' : k < s.data.toList.length := h
  rw [List.getElem?_eq_getElem h']
  rfl
theorem take_next (s : ByteArray) (k : Nat) (h : k < s.size) : s.toList.take (k + 1) = s.toList.take k ++ [s[k]] := by
  rw [List.take_add_one, byte_at s k h]
  rfl
theorem dig_here (s : ByteArray) (k : Nat) (hk : k ≤ s.size) (ha : (s.toList.take k).all digB = true) (hn : ∀ h : k < s.size, digB s[k] = false) : digL s = s.toList.take k ∧ (digL s).length = k := by
  have e : digL s = s.toList.take k := while_take _ _ ha (fun c hc => by
    by_cases h : k < s.size
    · rw [byte_at s k h] at hc; injection hc with hc; rw [← hc]; exact hn h
    · rw [List.getElem?_eq_none (by rw [size_list]; omega)] at hc; cases hc)
  refine ⟨e, ?_⟩
  rw [e, List.length_take, size_list]
  omega
set_option maxHeartbeats 1000000 in
theorem run_any (s : ByteArray) (hm : s.size ≤ 9223372036854775807) (w : World) :
    Calls Tryz.prog 10 #[.string s] w fun e w' => e = .returned (.tuple #[.int .i64 ((digL s).length : Int), .int .u64 (satL (digL s) : Int), .bool (isR s)]) ∧ ∃ n, w' = w.drewN n := by
  go_enter Tryz.func10, Tryz.ntmps10
  go_wp2_with fail
  go_loopw [5, 6] (fun u v wr => ∃ (k x : Nat), u = .int .i64 (k : Int) ∧ v = .int .u64 (x : Int) ∧ k ≤ s.size ∧ x ≤ 4611686018427387904 ∧ wr = w ∧ Hid ((s.toList.take k).all digB = true ∧ x = satL (s.toList.take k))) (fun u _ _ => s.size - (intOf u).toNat)
  case atStart => exact ⟨0, 0, rfl, rfl, Nat.zero_le _, Nat.zero_le _, rfl, rfl, rfl⟩
  case round =>
    obtain ⟨k, x, rfl, rfl, hk, hx, rfl, HA⟩ := hrel
    by_cases hgo : ∃ h : k < s.size, digB s[k] = true
    · obtain ⟨hks, hd⟩ := hgo
      have hdv := dig_val hd
      have HA2 : Hid ((s.toList.take (k + 1)).all digB = true ∧ satF x s[k] = satL (s.toList.take (k + 1))) := by
        rw [take_next s k hks]
        refine ⟨by rw [List.all_append, HA.out.1]; simp [hd], ?_⟩
        rw [satL_snoc, ← HA.out.2]
      have hle := satF_le (x := x) hd
      have hki : (k : Int) < (s.size : Int) := by omega
      obtain ⟨c, hc⟩ : ∃ c, s[k] = c := ⟨_, rfl⟩
      rw [hc] at hdv HA2 hle
      have d1 : 48 ≤ (c.toNat : Int) := by omega
      have d2 : (c.toNat : Int) ≤ 57 := by omega
      clear HA hd hdv
      unfold satF at HA2 hle
      by_cases hx2 : x < 288230376151711744
      · rw [if_pos hx2] at HA2 hle
        have b1 : decide ((x : Int) < 288230376151711744) = true := by simp; omega
        have HV : Hid (((10 * x + (c.toNat - 48) : Nat) : Int) = 10 * (x : Int) + ((c.toNat : Int) - 48)) := (by omega : ((10 * x + (c.toNat - 48) : Nat) : Int) = 10 * (x : Int) + ((c.toNat : Int) - 48))
        go_wp2_with fail
        go_roundw
        case rel => exact ⟨k + 1, 10 * x + (c.toNat - 48), by go_num, by rw [HV.out], by omega, by omega, by first | rfl | trivial, HA2⟩
        case measure => simp [intOf]; omega
      · rw [if_neg hx2] at HA2 hle
        have b1 : decide ((x : Int) < 288230376151711744) = false := by simp; omega
        go_wp2_with fail
        go_roundw
        case rel => exact ⟨k + 1, 4611686018427387904, by go_num, rfl, by omega, by omega, by first | rfl | trivial, HA2⟩
        case measure => simp [intOf]; omega
    · have hno : ∀ h : k < s.size, digB s[k] = false := fun h => by
        cases hd : digB s[k]
        · rfl
        · exact absurd ⟨h, hd⟩ hgo
      obtain ⟨e1, e2⟩ := dig_here s k hk HA.out.1 hno
      have HX : Hid (x = satL (digL s) ∧ (digL s).length = k) := ⟨by rw [e1]; exact HA.out.2, e2⟩
      have HI : Hid (isR s = ((k : Nat) == 1 || (decide (1 < k) && s.toList.headD 0 != 48))) := by unfold isR; rw [e2]; exact rfl
      clear e1 e2 HA hgo
      by_cases hks : k < s.size
      · have hki : (k : Int) < (s.size : Int) := by omega
        have hd := hno hks
        obtain ⟨c, hc⟩ : ∃ c, s[k] = c := ⟨_, rfl⟩
        rw [hc] at hd
        by_cases hlo : (c.toNat : Int) < 48
        · have g1 : decide (48 ≤ (c.toNat : Int)) = false := by simp; omega
          clear hno hd
          by_cases h1 : k = 1
          · have hR : isR s = true := by rw [HI.out, h1]; rfl
            have b1 : ((k : Int) == 1) = true := by rw [beq_iff_eq]; omega
            clear h1
            go_wp2_with fail
            go_quiet (fail)
            go_wp2_with fail
            go_ret3
            exact ⟨by rw [hR, ← HX.out.1, HX.out.2]; rfl, _, rfl⟩
          by_cases h2 : 1 < k
          · have hs0 : 0 < s.size := by omega
            have hs0i : (0 : Int) < (s.size : Int) := by omega
            have hR : isR s = ((s[0].toNat : Int) != 48) := by
              rw [HI.out, ne48, head_is s hs0, beq_eq_false_iff_ne.2 h1, decide_eq_true h2]
              simp
            have b1 : ((k : Int) == 1) = false := by rw [beq_eq_false_iff_ne]; omega
            have b2 : decide ((1 : Int) < (k : Int)) = true := by simp; omega
            clear h1
            go_wp2_with fail
            go_quiet (fail)
            go_wp2_with fail
            go_ret3
            exact ⟨by rw [hR, ← HX.out.1, HX.out.2]; rfl, _, rfl⟩
          · have hR : isR s = false := by rw [HI.out, beq_eq_false_iff_ne.2 h1, decide_eq_false h2]; rfl
            have b1 : ((k : Int) == 1) = false := by rw [beq_eq_false_iff_ne]; omega
            have b2 : decide ((1 : Int) < (k : Int)) = false := by simp; omega
            clear h1 h2
            go_wp2_with fail
            go_quiet (fail)
            go_wp2_with fail
            go_ret3
            exact ⟨by rw [hR, ← HX.out.1, HX.out.2]; rfl, _, rfl⟩
        · have g1 : 48 ≤ (c.toNat : Int) := by omega
          have g2 : decide ((c.toNat : Int) ≤ 57) = false := by
            cases hz : decide ((c.toNat : Int) ≤ 57)
            · rfl
            · rw [dig_yes ⟨g1, of_decide_eq_true hz⟩] at hd; cases hd
          clear hno hd hlo
          by_cases h1 : k = 1
          · have hR : isR s = true := by rw [HI.out, h1]; rfl
            have b1 : ((k : Int) == 1) = true := by rw [beq_iff_eq]; omega
            clear h1
            go_wp2_with fail
            go_quiet (fail)
            go_wp2_with fail
            go_ret3
            exact ⟨by rw [hR, ← HX.out.1, HX.out.2]; rfl, _, rfl⟩
          by_cases h2 : 1 < k
          · have hs0 : 0 < s.size := by omega
            have hs0i : (0 : Int) < (s.size : Int) := by omega
            have hR : isR s = ((s[0].toNat : Int) != 48) := by
              rw [HI.out, ne48, head_is s hs0, beq_eq_false_iff_ne.2 h1, decide_eq_true h2]
              simp
            have b1 : ((k : Int) == 1) = false := by rw [beq_eq_false_iff_ne]; omega
            have b2 : decide ((1 : Int) < (k : Int)) = true := by simp; omega
            clear h1
            go_wp2_with fail
            go_quiet (fail)
            go_wp2_with fail
            go_ret3
            exact ⟨by rw [hR, ← HX.out.1, HX.out.2]; rfl, _, rfl⟩
          · have hR : isR s = false := by rw [HI.out, beq_eq_false_iff_ne.2 h1, decide_eq_false h2]; rfl
            have b1 : ((k : Int) == 1) = false := by rw [beq_eq_false_iff_ne]; omega
            have b2 : decide ((1 : Int) < (k : Int)) = false := by simp; omega
            clear h1 h2
            go_wp2_with fail
            go_quiet (fail)
            go_wp2_with fail
            go_ret3
            exact ⟨by rw [hR, ← HX.out.1, HX.out.2]; rfl, _, rfl⟩
      · have hki : decide ((k : Int) < (s.size : Int)) = false := by simp; omega
        clear hno
        by_cases h1 : k = 1
        · have hR : isR s = true := by rw [HI.out, h1]; rfl
          have b1 : ((k : Int) == 1) = true := by rw [beq_iff_eq]; omega
          clear h1
          go_wp2_with fail
          go_quiet (fail)
          go_wp2_with fail
          go_ret3
          exact ⟨by rw [hR, ← HX.out.1, HX.out.2]; rfl, _, rfl⟩
        by_cases h2 : 1 < k
        · have hs0 : 0 < s.size := by omega
          have hs0i : (0 : Int) < (s.size : Int) := by omega
          have hR : isR s = ((s[0].toNat : Int) != 48) := by
            rw [HI.out, ne48, head_is s hs0, beq_eq_false_iff_ne.2 h1, decide_eq_true h2]
            simp
          have b1 : ((k : Int) == 1) = false := by rw [beq_eq_false_iff_ne]; omega
          have b2 : decide ((1 : Int) < (k : Int)) = true := by simp; omega
          clear h1
          go_wp2_with fail
          go_quiet (fail)
          go_wp2_with fail
          go_ret3
          exact ⟨by rw [hR, ← HX.out.1, HX.out.2]; rfl, _, rfl⟩
        · have hR : isR s = false := by rw [HI.out, beq_eq_false_iff_ne.2 h1, decide_eq_false h2]; rfl
          have b1 : ((k : Int) == 1) = false := by rw [beq_eq_false_iff_ne]; omega
          have b2 : decide ((1 : Int) < (k : Int)) = false := by simp; omega
          clear h1 h2
          go_wp2_with fail
          go_quiet (fail)
          go_wp2_with fail
          go_ret3
          exact ⟨by rw [hR, ← HX.out.1, HX.out.2]; rfl, _, rfl⟩
end Go.Proofs.YtlaecbbhgjpfoaaGreatDoor
end

section
namespace Go.Proofs.YtlaecbbhgjpfoaaGreatDoor
open Go.RowKit

theorem dec_ge : ∀ (l : List UInt8) (acc : Nat), acc * 10 ^ l.length ≤ dec acc l
  | [], acc => by rw [List.length_nil, Nat.pow_zero, Nat.mul_one]; exact Nat.le_refl _
  | c :: r, acc => by
    have h := dec_ge r (acc * 10 + (c.toNat - 48))
    show _ ≤ dec (acc * 10 + (c.toNat - 48)) r
    refine Nat.le_trans ?_ h
    rw [List.length_cons, Nat.pow_succ, Nat.mul_comm (10 ^ r.length) 10, ← Nat.mul_assoc]
    exact Nat.mul_le_mul_right _ (by omega)
theorem dec_big {l : List UInt8} (h : wholeL l = true) (j : Nat) (hj : j + 1 < l.length) : 10 ^ (j + 1) ≤ dec 0 l := by
  match l, hj with
  | c :: d :: r, hj =>
    unfold wholeL at h
    simp only [Bool.and_eq_true, List.all_cons, Bool.or_eq_true] at h
    have hc := dig_val h.1.1
    have hh : c ≠ 48 := by
      rcases h.2 with h2 | h2
      · have := beq_iff_eq.1 h2; cases this
      · simpa using h2.2
    have hn : c.toNat ≠ 48 := fun e => hh (by apply UInt8.toNat_inj.mp; rw [e]; rfl)
    have h1 := dec_ge (d :: r) (0 * 10 + (c.toNat - 48))
    refine Nat.le_trans ?_ h1
    have h2 : 10 ^ (j + 1) ≤ 10 ^ (d :: r).length := Nat.pow_le_pow_right (by decide) (by simp at hj ⊢; omega)
    refine Nat.le_trans h2 ?_
    exact Nat.le_mul_of_pos_left _ (by omega)
theorem sat_dec : ∀ l : List UInt8, satL l = dec 0 l ∨ (288230376151711744 ≤ satL l ∧ 288230376151711744 ≤ dec 0 l) := by
  intro l
  have key : ∀ n (l : List UInt8), l.length = n → satL l = dec 0 l ∨ (288230376151711744 ≤ satL l ∧ 288230376151711744 ≤ dec 0 l) := by
    intro n
    induction n with
    | zero => intro l hl; rw [List.eq_nil_of_length_eq_zero hl]; exact .inl rfl
    | succ n ih =>
      intro l hl
      have hne : l ≠ [] := fun e => by rw [e] at hl; cases hl
      have e := List.dropLast_concat_getLast hne
      rw [← e, satL_snoc, dec_append]
      have h := ih l.dropLast (by rw [List.length_dropLast]; omega)
      unfold satF
      split
      · rcases h with h | ⟨h1, h2⟩
        · rw [h]; exact .inl (by omega)
        · omega
      · rcases h with h | ⟨h1, h2⟩
        · exact .inr ⟨by decide, by omega⟩
        · exact .inr ⟨by decide, by omega⟩
  exact key _ l rfl
theorem dig_all (s : ByteArray) : (digL s).all digB = true := by
  unfold digL
  generalize s.toList = l
  induction l with
  | nil => rfl
  | cons c r ih =>
    rw [List.takeWhile_cons]
    split
    · rename_i h; rw [List.all_cons, h, ih]; rfl
    · rfl
theorem while_app {p : UInt8 → Bool} (l : List UInt8) : l = l.takeWhile p ++ l.dropWhile p := (List.takeWhile_append_dropWhile).symm
theorem drop_head {p : UInt8 → Bool} : ∀ (l : List UInt8) (c : UInt8) (r : List UInt8), l.dropWhile p = c :: r → p c = false
  | [], c, r, h => by cases h
  | d :: l, c, r, h => by
    rw [List.dropWhile_cons] at h
    split at h
    · exact drop_head l c r h
    · rename_i hp
      injection h with h1 h2
      rw [← h1]
      simpa using hp
theorem whole_isR (s : ByteArray) : isR s = wholeL (digL s) := by
  have ha := dig_all s
  have e := while_app (p := digB) s.toList
  have hd : digL s = s.toList.takeWhile digB := rfl
  unfold isR wholeL
  rw [ha, Bool.true_and]
  cases h : digL s with
  | nil => rfl
  | cons c r =>
    have hh : s.toList.headD 0 = c := by rw [e, ← hd, h]; rfl
    rw [hh]
    cases r with
    | nil =>
      by_cases h48 : c = 48
      · subst h48; rfl
      · simp [h48]
    | cons d r => simp
theorem dig_whole {s : ByteArray} (h : s.toList.all digB = true) : digL s = s.toList := by
  unfold digL
  generalize s.toList = l at *
  induction l with
  | nil => rfl
  | cons c r ih =>
    rw [List.all_cons, Bool.and_eq_true] at h
    rw [List.takeWhile_cons, h.1, ih h.2]
    rfl
theorem dig_full {s : ByteArray} (h : (digL s).length = s.size) : digL s = s.toList := by
  have e := while_app (p := digB) s.toList
  have hd : digL s = s.toList.takeWhile digB := rfl
  rw [← hd] at e
  have hl := congrArg List.length e
  rw [List.length_append, size_list, h] at hl
  have : s.toList.dropWhile digB = [] := List.eq_nil_of_length_eq_zero (by omega)
  rw [this, List.append_nil] at e
  exact e.symm
/-- is the whole text a number: as the document asks, as the program does -/
theorem whole_two (s : ByteArray) : wholeB s = (isR s && decide ((digL s).length = s.size)) := by
  by_cases h : (digL s).length = s.size
  · rw [decide_eq_true h, Bool.and_true, whole_isR, dig_full h]; rfl
  · rw [decide_eq_false h, Bool.and_false]
    cases hw : wholeB s
    · rfl
    · exact absurd (by rw [dig_whole (whole_all hw), size_list]) h
theorem sat_zero {l : List UInt8} (h : wholeL l = true) : satL l = 0 ↔ l = [48] := by
  constructor
  · intro h0
    rcases sat_dec l with h1 | h1
    · rw [h0] at h1
      unfold wholeL at h
      simp only [Bool.and_eq_true, Bool.or_eq_true] at h
      rcases h.2 with h2 | h2
      · exact beq_iff_eq.1 h2
      · have h3 := dec_pos l h.1 (by intro e; rw [e] at h2; simp at h2) (by simpa using h2.2)
        omega
    · omega
  · intro e; rw [e]; rfl
/-- when the nearest number is none -/
theorem rung_inf {m : Nat} {x : Int} (h0 : 1 ≤ m) (hm : m < 9007199254740992) (hx : -1074 ≤ x) : Gn.rung m x = 9218868437227405312 ↔ 1024 < x + (Lib.bitLen m : Int) := by
  have hl : 2 ^ m.log2 ≤ m := Nat.log2_self_le (by omega)
  have hu : m < 2 ^ (m.log2 + 1) := Nat.lt_log2_self
  have h52 : m.log2 ≤ 52 := by
    rcases Nat.lt_or_ge m.log2 53 with h | h
    · omega
    · have := Nat.pow_le_pow_right (n := 2) (by decide) h
      have e : (2 : Nat) ^ 53 = 9007199254740992 := by decide
      omega
  rw [len_log h0 (by omega)]
  unfold Gn.rung
  rw [if_neg (by omega)]
  simp only []
  by_cases hq : -1074 ≤ x + (m.log2 : Int) - 52
  · rw [show max (x + (m.log2 : Int) - 52) (-1074) = x + (m.log2 : Int) - 52 by omega, show (x + (m.log2 : Int) - 52 - x).toNat = 0 by omega, show (x - (x + (m.log2 : Int) - 52)).toNat = 52 - m.log2 by omega, Gn.rhe_zero]
    have e : 2 ^ m.log2 * 2 ^ (52 - m.log2) = 4503599627370496 := by rw [← Nat.pow_add, show m.log2 + (52 - m.log2) = 52 by omega]
    have e2 : 2 ^ (m.log2 + 1) * 2 ^ (52 - m.log2) = 9007199254740992 := by rw [← Nat.pow_add, show m.log2 + 1 + (52 - m.log2) = 53 by omega]
    have h1 : 4503599627370496 ≤ m * 2 ^ (52 - m.log2) := by rw [← e]; exact Nat.mul_le_mul_right _ hl
    have h2 : m * 2 ^ (52 - m.log2) < 9007199254740992 := by rw [← e2]; exact Nat.mul_lt_mul_of_pos_right hu (Nat.two_pow_pos _)
    generalize m * 2 ^ (52 - m.log2) = M at *
    omega
  · rw [show max (x + (m.log2 : Int) - 52) (-1074) = -1074 by omega, show ((-1074 : Int) - x).toNat = 0 by omega, Gn.rhe_zero]
    have h3 : m * 2 ^ (x - -1074).toNat < 4503599627370496 := by
      have e : 2 ^ (m.log2 + 1) * 2 ^ (x - -1074).toNat ≤ 2 ^ 52 := by rw [← Nat.pow_add]; exact Nat.pow_le_pow_right (by decide) (by omega)
      have e2 : (2 : Nat) ^ 52 = 4503599627370496 := by decide
      have := Nat.mul_lt_mul_of_pos_right hu (Nat.two_pow_pos (x - -1074).toNat)
      omega
    generalize m * 2 ^ (x - -1074).toNat = M at *
    omega
/-- the document's answer for the amount of a text without a sign -/
def rkk (p : ByteArray) : Int := if minusB p then -(satL (digL (bareB p)) : Int) else (satL (digL (bareB p)) : Int)
def rendP (m : Nat) (x : Int) : Nat × Int := if Gn.rung m x = 9218868437227405312 then (0, 11) else (Gn.rung m x, 0)
def rvalP (m : Nat) (p : ByteArray) : Nat × Int := if 9007199254740992 ≤ m ∨ 4000 < satL (digL (bareB p)) then (0, 11) else if rkk p < -1074 then (0, 11) else rendP m (rkk p)
def rpowP (m : Nat) (p : ByteArray) : Nat × Int := if isR (bareB p) = false ∨ (digL (bareB p)).length < (bareB p).size ∨ (minusB p = true ∧ satL (digL (bareB p)) = 0) then (0, 10) else rvalP m p
def rcutP (t : ByteArray) : Nat × Int := if isR t = false ∨ ((digL t).getLastD 0).toNat % 2 = 0 ∨ t.toList[(digL t).length]? ≠ some 112 then (0, 10) else rpowP (satL (digL t)) (t.extract ((digL t).length + 1) t.size)
theorem bare_size (p : ByteArray) : (bareB p).size = if minusB p then p.size - 1 else p.size := by
  unfold bareB
  split
  · rw [← size_list, rest_list, List.length_drop, size_list]
  · rfl
theorem pow_two (p : ByteArray) : (isR (bareB p) = false ∨ (digL (bareB p)).length < (bareB p).size ∨ (minusB p = true ∧ satL (digL (bareB p)) = 0)) ↔ powB p = false := by
  have hlen : (digL (bareB p)).length ≤ (bareB p).size := by
    rw [← size_list]
    exact List.Sublist.length_le (List.takeWhile_sublist _)
  have hw := whole_two (bareB p)
  unfold powB
  by_cases hm : minusB p = true
  · have hb : bareB p = p.extract 1 p.size := by unfold bareB; rw [if_pos hm]
    rw [if_pos hm, ← hb]
    cases hW : wholeB (bareB p)
    · rw [hW] at hw
      simp only [Bool.false_and, iff_true]
      cases hR : isR (bareB p)
      · exact .inl rfl
      · rw [hR, Bool.true_and] at hw
        exact .inr (.inl (by have := of_decide_eq_false hw.symm; omega))
    · rw [hW] at hw
      have hw2 := hw.symm
      rw [Bool.and_eq_true] at hw2
      have hl := of_decide_eq_true hw2.2
      have hwl : wholeL (digL (bareB p)) = true := by rw [← whole_isR]; exact hw2.1
      have hz := sat_zero hwl
      rw [dig_full hl] at hz ⊢
      rw [hw2.1, Bool.true_and]
      rw [dig_full hl] at hl
      by_cases h48 : (bareB p).toList = [48]
      · have hz0 := hz.2 h48
        rw [h48] at hz0 ⊢
        simp [hm, hz0]
      · have hz0 : ¬ satL (bareB p).toList = 0 := fun e => h48 (hz.1 e)
        have hb2 : ((bareB p).toList == [48]) = false := beq_eq_false_iff_ne.2 h48
        rw [hb2]
        simp [hl, hz0]
  · have hb : bareB p = p := by unfold bareB; rw [if_neg hm]
    rw [hb] at hlen hw
    rw [if_neg hm, hb, hw]
    cases hR : isR p
    · simp
    · simp [hm]
      omega
theorem pow_num {p : ByteArray} (h : powB p = true) : wholeL (digL (bareB p)) = true ∧ digL (bareB p) = (bareB p).toList ∧ powV p = if minusB p then -(dec 0 (digL (bareB p)) : Int) else (dec 0 (digL (bareB p)) : Int) := by
  have hn : ¬ _ := fun e => by have h2 := (pow_two p).1 e; rw [h] at h2; cases h2
  simp only [not_or] at hn
  have hlen : (digL (bareB p)).length ≤ (bareB p).size := by
    rw [← size_list]
    exact List.Sublist.length_le (List.takeWhile_sublist _)
  have hl : (digL (bareB p)).length = (bareB p).size := by omega
  refine ⟨?_, dig_full hl, ?_⟩
  · rw [← whole_isR]; simpa using hn.1
  · rw [dig_full hl]
    unfold powV numD bareB
    split <;> rfl
theorem pow_val {o : Nat} {p : ByteArray} (hodd : o % 2 = 1) (h : powB p = true) (hs : satL (digL (bareB p)) = dec 0 (digL (bareB p)) ∨ (288230376151711744 ≤ satL (digL (bareB p)) ∧ 288230376151711744 ≤ dec 0 (digL (bareB p)))) (M : Nat) (hM : M = o ∨ (288230376151711744 ≤ M ∧ 288230376151711744 ≤ o)) : valP o (powV p) = rvalP M p := by
  obtain ⟨_, _, hv⟩ := pow_num h
  unfold valP rvalP rkk
  generalize dec 0 (digL (bareB p)) = D at *
  generalize satL (digL (bareB p)) = T at *
  generalize minusB p = mb at *
  by_cases h53 : 9007199254740992 ≤ o
  · rw [if_pos (.inl h53), if_pos (show 9007199254740992 ≤ M ∨ 4000 < T from .inl (by omega))]
  · have hM' : M = o := by omega
    subst hM'
    by_cases h4 : 4000 < T
    · rw [if_pos (show 9007199254740992 ≤ M ∨ 4000 < T from .inr h4)]
      have hD : 4000 < D := by omega
      have hb : (1 : Int) ≤ (Lib.bitLen M : Int) := by rw [len_log (by omega) (by omega)]; omega
      cases mb with
      | true => rw [if_pos rfl] at hv; rw [if_pos (.inr (.inl (by omega)))]
      | false => rw [if_neg (by simp)] at hv; rw [if_pos (.inr (.inr (by omega)))]
    · have hD : D = T := by omega
      subst hD
      rw [if_neg (show ¬ (9007199254740992 ≤ M ∨ 4000 < D) by omega)]
      have hv2 : powV p = if mb = true then -(D : Int) else (D : Int) := hv
      rw [← hv2]
      generalize powV p = x at *
      by_cases hx : x < -1074
      · rw [if_pos (.inr (.inl hx)), if_pos hx]
      · rw [if_neg hx]
        have hri := rung_inf (m := M) (x := x) (by omega) (by omega) (by omega)
        unfold rendP
        by_cases hi : 1024 < x + (Lib.bitLen M : Int)
        · rw [if_pos (.inr (.inr hi)), if_pos (hri.2 hi)]
        · rw [if_neg (by omega), if_neg (fun e => hi (hri.1 e)), Gn.rung_rn M x (by omega)]
end Go.Proofs.YtlaecbbhgjpfoaaGreatDoor
end

section
namespace Go.Proofs.YtlaecbbhgjpfoaaGreatDoor
open Go.RowKit

theorem ext_front {s : ByteArray} {d r : List UInt8} (e : s.toList = d ++ r) : (s.extract 0 d.length).toList = d := by
  rw [Lib.extract_toList, ← ByteArray.toList_eq, e]
  simp
theorem amt_cut {t : ByteArray} (h1 : t.toList ≠ [105, 110, 102]) (h2 : t.toList ≠ [48]) : amtP t = rcutP t := by
  unfold amtP
  rw [if_neg h1, if_neg h2]
  unfold rcutP
  have e := while_app (p := digB) t.toList
  have ha := dig_all t
  have hd : digL t = t.toList.takeWhile digB := rfl
  rw [← hd] at e
  have n112 : digB 112 = false := by decide
  have hL : t.toList[(digL t).length]? = (t.toList.dropWhile digB)[0]? := by
    have : (digL t ++ t.toList.dropWhile digB)[(digL t).length]? = (t.toList.dropWhile digB)[(digL t).length - (digL t).length]? := List.getElem?_append_right (Nat.le_refl _)
    rw [Nat.sub_self, ← e] at this
    exact this
  have hmem : ∀ i : Nat, firstIdx t 112 = (i : Int) → oddB (t.extract 0 i) = true → t.toList.dropWhile digB = 112 :: (t.extract (i + 1) t.size).toList := fun i hi ho => by
    obtain ⟨_, hs⟩ := first_split hi
    have hall := whole_all (odd_whole ho)
    have hz : ∀ l : List UInt8, l.all digB = true → ∀ r : List UInt8, (l ++ 112 :: r).dropWhile digB = 112 :: r := by
      intro l
      induction l with
      | nil => intro _ r; rw [List.nil_append, List.dropWhile_cons, n112]; rfl
      | cons c l ih => intro h r; rw [List.all_cons, Bool.and_eq_true] at h; rw [List.cons_append, List.dropWhile_cons, h.1]; exact ih h.2 r
    rw [hs]
    exact hz _ hall _
  cases hr : t.toList.dropWhile digB with
  | nil =>
    rw [hr] at hL hmem e
    rw [if_pos (c := isR t = false ∨ _) (.inr (.inr (by rw [hL]; simp)))]
    rcases first_cases t 112 with hf | ⟨i, hf, hi⟩
    · rw [if_pos (by omega)]
    · rw [hf, if_neg (by omega), Int.toNat_natCast]
      unfold cutP
      cases ho : oddB (t.extract 0 i)
      · rw [if_pos (by rw [Bool.false_and])]
      · have := hmem i hf ho; cases this
  | cons c r =>
    rw [hr] at hL hmem e
    have hL2 : t.toList[(digL t).length]? = some c := hL
    by_cases h112 : c = 112
    · subst h112
      have hf := first_at e ha
      rw [hf, if_neg (by omega), Int.toNat_natCast]
      have ho := ext_front e
      have hodd : oddB (t.extract 0 (digL t).length) = (isR t && ((digL t).getLastD 0).toNat % 2 == 1) := by unfold oddB; rw [whole_list, ho, whole_isR]
      have hnum : numD (t.extract 0 (digL t).length) = dec 0 (digL t) := by unfold numD; rw [ho]
      have hsz : (t.extract 0 (digL t).length).size = (digL t).length := by rw [← size_list, ho]
      generalize t.extract 0 (digL t).length = o at *
      generalize t.extract ((digL t).length + 1) t.size = p at *
      unfold cutP
      cases hO : oddB o
      · rw [if_pos (by rw [Bool.false_and])]
        rw [hO] at hodd
        have hodd := hodd.symm
        rw [if_pos]
        cases hR : isR t
        · exact .inl rfl
        · rw [hR, Bool.true_and] at hodd
          have := beq_eq_false_iff_ne.1 hodd
          exact .inr (.inl (by omega))
      · rw [hO] at hodd
        have hodd := hodd.symm
        rw [Bool.and_eq_true] at hodd
        have hpar := beq_iff_eq.1 hodd.2
        rw [if_neg (c := isR t = false ∨ _) (by
          rintro (h | h | h)
          · rw [hodd.1] at h; cases h
          · omega
          · exact h hL2)]
        unfold rpowP
        cases hP : powB p
        · rw [if_pos (by rfl), if_pos ((pow_two p).2 hP)]
        · rw [if_neg (by simp), if_neg (c := isR (bareB p) = false ∨ _) (fun h => by have := (pow_two p).1 h; rw [hP] at this; cases this)]
          have hwl : wholeL (digL t) = true := by rw [← whole_isR]; exact hodd.1
          have hs1 := sat_dec (digL t)
          by_cases hlong : 16 < o.size ∨ 5 < p.size
          · rw [if_pos hlong]
            unfold rvalP
            rw [if_pos]
            rcases hlong with h | h
            · have := dec_big hwl 15 (by omega)
              have e16 : (10 : Nat) ^ (15 + 1) = 10000000000000000 := by decide
              exact .inl (by omega)
            · obtain ⟨hw2, hd2, _⟩ := pow_num hP
              have hs2 := sat_dec (digL (bareB p))
              have hb := bare_size p
              have hl2 : (digL (bareB p)).length = (bareB p).size := by rw [hd2, size_list]
              have := dec_big hw2 3 (by rw [hl2, hb]; split <;> omega)
              have e4 : (10 : Nat) ^ (3 + 1) = 10000 := by decide
              exact .inr (by omega)
          · rw [if_neg hlong]
            refine pow_val (odd_num hO) hP (sat_dec _) _ ?_
            rw [hnum]
            exact hs1
    · rw [if_pos (c := isR t = false ∨ _) (.inr (.inr (by rw [hL2]; simpa using h112)))]
      rcases first_cases t 112 with hf | ⟨i, hf, hi⟩
      · rw [if_pos (by omega)]
      · rw [hf, if_neg (by omega), Int.toNat_natCast]
        unfold cutP
        cases ho : oddB (t.extract 0 i)
        · rw [if_pos (by rw [Bool.false_and])]
        · have := hmem i hf ho
          injection this with h3 _
          exact absurd h3 h112
/-- the words that stand for themselves -/
def wWord (i : Nat) : Nat := ([9221120237041090561, 9218868437227405312, 18442240474082181120, 0, 9223372036854775808] : List Nat).getD i 0
def wText (i : Nat) : List UInt8 := ([[110, 97, 110], [105, 110, 102], [45, 105, 110, 102], [48], [45, 48]] : List (List UInt8)).getD i []
def rsgP (s : ByteArray) : Nat × Int := if (rcutP (bareB s)).2 = 0 then (if minusB s then (rcutP (bareB s)).1 + 9223372036854775808 else (rcutP (bareB s)).1, 0) else (0, (rcutP (bareB s)).2)
theorem parse_w0 : parseP ⟨#[110, 97, 110]⟩ = (9221120237041090561, 0) := by kernel_rfl
theorem parse_w1 : parseP ⟨#[105, 110, 102]⟩ = (9218868437227405312, 0) := by kernel_rfl
theorem parse_w2 : parseP ⟨#[45, 105, 110, 102]⟩ = (18442240474082181120, 0) := by kernel_rfl
theorem parse_w3 : parseP ⟨#[48]⟩ = (0, 0) := by kernel_rfl
theorem parse_w4 : parseP ⟨#[45, 48]⟩ = (9223372036854775808, 0) := by kernel_rfl
theorem parse_word {s : ByteArray} {i : Nat} (hi : i < 5) (h : s.toList = wText i) : parseP s = (wWord i, 0) := by
  have hs := list_mk h
  subst hs
  match i, hi with
  | 0, _ => exact parse_w0
  | 1, _ => exact parse_w1
  | 2, _ => exact parse_w2
  | 3, _ => exact parse_w3
  | 4, _ => exact parse_w4
theorem minus_list {s : ByteArray} (h : minusB s = true) : s.toList = 45 :: (bareB s).toList := by
  unfold bareB
  rw [if_pos h, rest_list]
  rw [minus_head] at h
  cases hl : s.toList with
  | nil => rw [hl] at h; cases h
  | cons c r =>
    rw [hl] at h
    have : c = 45 := beq_iff_eq.1 h
    rw [this]
    rfl
theorem parse_other {s : ByteArray} (h : ∀ i, i < 5 → s.toList ≠ wText i) : parseP s = rsgP s := by
  unfold parseP rsgP
  rw [if_neg (show ¬ s.toList = [110, 97, 110] from h 0 (by decide))]
  have key : (bareB s).toList ≠ [105, 110, 102] ∧ (bareB s).toList ≠ [48] := by
    by_cases hm : minusB s = true
    · have e := minus_list hm
      exact ⟨fun h1 => h 2 (by decide) (by rw [e, h1]; rfl), fun h1 => h 4 (by decide) (by rw [e, h1]; rfl)⟩
    · have e : bareB s = s := by unfold bareB; rw [if_neg hm]
      rw [e]
      exact ⟨h 1 (by decide), h 3 (by decide)⟩
  rw [amt_cut key.1 key.2]
end Go.Proofs.YtlaecbbhgjpfoaaGreatDoor
end
