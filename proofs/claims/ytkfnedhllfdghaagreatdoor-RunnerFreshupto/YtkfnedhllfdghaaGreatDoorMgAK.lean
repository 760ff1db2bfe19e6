import Derived.Test.YtkfnedhllfdghaaGreatDoorMgAF
import Derived.Deep.Cut
import Derived.Laws.BitsAllLaws

section
namespace Go.Proofs.YtkfnedhllfdghaaGreatDoor
set_option maxRecDepth 20000
open Go.RowKit

set_option maxHeartbeats 400000 in
theorem fault_any {w : World} {B : Nat} {b : ByteArray} {p f : Int} (h : Rd w B b p f) :
    Calls Tryz.prog 146 #[.pointer (some ⟨B, 0, none⟩)] w fun e w' => e = .returned (.tuple #[.int .i64 f, .int .i64 (if f = 0 then 0 else p)]) ∧ ∃ n, w' = w.drewN n := by
  have c1 := h.c1
  have c2 := h.c2
  by_cases hf : f = 0
  · subst hf
    go_enter Tryz.func146, Tryz.ntmps146
    go_wp2
    go_ret2
    exact ⟨rfl, 0, rfl⟩
  · have hf' : (f == 0) = false := by rw [beq_eq_false_iff_ne]; exact hf
    rw [if_neg hf]
    clear hf
    go_enter Tryz.func146, Tryz.ntmps146
    go_wp2
    go_quiet (fail)
    go_wp2
    go_ret2
    exact ⟨rfl, _, rfl⟩

/-- what End tells -/
def endE (b : ByteArray) (p f : Int) : Int := if f = 0 ∧ p < (b.size : Int) then 24 else f
def endP (b : ByteArray) (p f : Int) : Int := if f = 0 ∧ ¬ p < (b.size : Int) then 0 else p

set_option maxHeartbeats 400000 in
theorem end_any {w : World} {B : Nat} {b : ByteArray} {p f : Int} (h : Rd w B b p f) (hp0 : 0 ≤ p) (hp : p ≤ (b.size : Int)) (hb : b.size ≤ 140737488351232) :
    Calls Tryz.prog 102 #[.pointer (some ⟨B, 0, none⟩)] w fun e w' => e = .returned (.tuple #[.int .i64 (endE b p f), .int .i64 (endP b p f)]) ∧ ∃ n, w' = w.drewN n := by
  have c1 := h.c1
  have c2 := h.c2
  by_cases hf : f = 0
  · subst hf
    by_cases hl : p < (b.size : Int)
    · have e1 : endE b p 0 = 24 := by unfold endE; rw [if_pos ⟨rfl, hl⟩]
      have e2 : endP b p 0 = p := by unfold endP; rw [if_neg (fun k => k.2 hl)]
      rw [e1, e2]
      have hl' : decide (p < (b.size : Int)) = true := by simp; omega
      clear e1 e2 hl
      go_enter Tryz.func102, Tryz.ntmps102
      go_wp2_with (go_at_call 145; refine (left_any h hp0 hp hb).mono ?_; rintro e w' ⟨rfl, n, rfl⟩)
      go_quiet (fail)
      go_wp2
      go_ret2
      exact ⟨rfl, _, World.drewN_drewN _ _ _⟩
    · have e1 : endE b p 0 = 0 := by unfold endE; rw [if_neg (fun k => hl k.2)]
      have e2 : endP b p 0 = 0 := by unfold endP; rw [if_pos ⟨rfl, hl⟩]
      rw [e1, e2]
      have hl' : decide (p < (b.size : Int)) = false := by simp; omega
      have HF : ∀ w1 : World, Rd w1 B b p 0 → Calls Tryz.prog 146 #[.pointer (some ⟨B, 0, none⟩)] w1 fun e w' => e = .returned (.tuple #[.int .i64 0, .int .i64 0]) ∧ ∃ n, w' = w1.drewN n := fun w1 h1 => fault_any h1
      have HF' : Hid (∀ w1 : World, Rd w1 B b p 0 → Calls Tryz.prog 146 #[.pointer (some ⟨B, 0, none⟩)] w1 fun e w' => e = .returned (.tuple #[.int .i64 0, .int .i64 0]) ∧ ∃ n, w' = w1.drewN n) := HF
      clear e1 e2 hl HF
      go_enter Tryz.func102, Tryz.ntmps102
      go_wp2_with (first
        | (go_at_call 145; refine (left_any h hp0 hp hb).mono ?_; rintro e w' ⟨rfl, n, rfl⟩)
        | (go_at_call 146; refine (HF'.out _ (h.drew _)).mono ?_; rintro e w' ⟨rfl, m, rfl⟩))
      go_ret2
      exact ⟨rfl, _, rfl⟩
  · have hf' : (f == 0) = false := by rw [beq_eq_false_iff_ne]; exact hf
    have e1 : endE b p f = f := by unfold endE; rw [if_neg (fun k => hf k.1)]
    have e2 : endP b p f = p := by unfold endP; rw [if_neg (fun k => hf k.1)]
    have e3 : (if f = 0 then 0 else p) = p := if_neg hf
    have hfa := fault_any h
    rw [e3] at hfa
    have HF : Hid (Calls Tryz.prog 146 #[.pointer (some ⟨B, 0, none⟩)] w fun e w' => e = .returned (.tuple #[.int .i64 f, .int .i64 p]) ∧ ∃ n, w' = w.drewN n) := hfa
    clear hfa
    rw [e1, e2]
    clear e1 e2 e3 hf
    go_enter Tryz.func102, Tryz.ntmps102
    go_wp2_with (go_at_call 146; refine HF.out.mono ?_; rintro e w' ⟨rfl, m, rfl⟩)
    go_ret2
    exact ⟨rfl, _, rfl⟩

/-- a panic with an error's number -/
def Gives (e : Ending) (k : Int) : Prop := e = .panicked [{ v := .iface 28 (.int .i64 k), recovered := false }]

theorem gSet (w : World) (B k n m : Nat) {u : Value} : w.grownBy (((w.drewN n).setCell ⟨B, k, none⟩ u).drewN m) (some B) :=
  ⟨rfl, rfl, rfl, by show _ ≤ (w.heap.modify B _).size; simp, fun i _ hi => Below.heap_setCell w ⟨B, k, none⟩ u i (fun e => hi (by rw [e]))⟩
set_option maxHeartbeats 400000 in
theorem take_any {w : World} {B : Nat} {b : ByteArray} {p m f : Int} (h : Rd w B b p f) (hp0 : 0 ≤ p) (hp : p ≤ (b.size : Int)) (hb : b.size ≤ 140737488351232) (hm0 : 0 ≤ m) (hm : m ≤ (b.size : Int) - p) :
    Calls Tryz.prog 252 #[.pointer (some ⟨B, 0, none⟩), .int .i64 m] w fun e w' =>
      e = .returned (.string (b.extract p.toNat (p + m).toNat)) ∧ Rd w' B b (p + m) f ∧ w.grownBy w' (some B) := by
  have c0 := h.c0
  have c1 := h.c1
  have z1 := h.z 1
  have hm' : decide ((b.size : Int) - p < m) = false := by simp; omega
  have c0' := (h.set1 (q := p + m)).c0
  have c1' := (h.set1 (q := p + m)).c1
  go_enter Tryz.func252, Tryz.ntmps252
  go_wp2_with (go_at_call 145; refine (left_any h hp0 hp hb).mono ?_; rintro e w' ⟨rfl, n, rfl⟩)
  go_quiet (fail)
  go_wp2
  go_ret
  exact ⟨rfl, h.set1, gSet _ _ _ _ _⟩
set_option maxHeartbeats 400000 in
theorem take_short {w : World} {B : Nat} {b : ByteArray} {p m f : Int} (h : Rd w B b p f) (hp0 : 0 ≤ p) (hp : p ≤ (b.size : Int)) (hb : b.size ≤ 140737488351232) (hm : ¬ m ≤ (b.size : Int) - p) :
    Calls Tryz.prog 252 #[.pointer (some ⟨B, 0, none⟩), .int .i64 m] w fun e w' => Gives e 20 ∧ ∃ n, w' = w.drewN n := by
  have hm' : decide ((b.size : Int) - p < m) = true := by simp; omega
  go_enter Tryz.func252, Tryz.ntmps252
  go_wp2_with (go_at_call 145; refine (left_any h hp0 hp hb).mono ?_; rintro e w' ⟨rfl, n, rfl⟩)
  exact ⟨rfl, rfl, _, rfl⟩
end Go.Proofs.YtkfnedhllfdghaaGreatDoor
end

section
namespace Go.Proofs.YtkfnedhllfdghaaGreatDoor
set_option maxRecDepth 20000
open Go.RowKit

theorem wrapU (x : Nat) : IntKind.u64.wrap (x : Int) = ((x % 18446744073709551616 : Nat) : Int) := by rw [IntKind.wrap_u64]; omega
theorem p7 (k : Nat) : (128 : Nat) ^ k = 2 ^ (7 * k) := by rw [show (128 : Nat) = 2 ^ 7 by decide, ← Nat.pow_mul]

theorem gacc (acc c k : Nat) (hk : k < 10) (ha : acc < 128 ^ k) : ∃ acc' : Nat, bits .or .u64 (acc : Int) (IntKind.u64.wrap ((c : Int) % 128 * 2 ^ (7 * k))) = (acc' : Int) ∧ acc' < 18446744073709551616 ∧
    ((k ≤ 8 ∨ c % 128 ≤ 1) → acc' = acc + (c % 128) * 128 ^ k ∧ (k ≤ 8 → acc' < 128 ^ (k + 1))) := by
  have e1 : (c : Int) % 128 * 2 ^ (7 * k) = ((c % 128 * 2 ^ (7 * k) : Nat) : Int) := by simp
  have hp9 : 128 ^ k ≤ 9223372036854775808 := by
    have : (128 : Nat) ^ k ≤ 128 ^ 9 := Nat.pow_le_pow_right (by decide) (by omega)
    rw [Pk.p9] at this; exact this
  have hm := Nat.mod_lt (c % 128 * 2 ^ (7 * k)) (show 0 < 18446744073709551616 by decide)
  rw [e1, wrapU, u64_or_nat _ _ (by omega) hm]
  refine ⟨_, rfl, ?_, ?_⟩
  · have : (acc ||| c % 128 * 2 ^ (7 * k) % 18446744073709551616) < 2 ^ 64 := Nat.or_lt_two_pow (by omega) (by omega)
    omega
  · intro h
    have hX : c % 128 * 2 ^ (7 * k) < 18446744073709551616 := by
      rw [← p7]
      rcases h with h | h
      · have : (128 : Nat) ^ k ≤ 128 ^ 8 := Nat.pow_le_pow_right (by decide) h
        have e : (128 : Nat) ^ 8 = 72057594037927936 := by decide
        have : c % 128 * 128 ^ k ≤ 127 * 72057594037927936 := Nat.mul_le_mul (by omega) (by omega)
        omega
      · have : c % 128 * 128 ^ k ≤ 1 * 9223372036854775808 := Nat.mul_le_mul h hp9
        omega
    rw [Nat.mod_eq_of_lt hX, Nat.or_comm, nat_join (7 * k) _ _ (Nat.mul_mod_left _ _) (by rw [← p7]; exact ha), p7]
    refine ⟨by omega, fun _ => ?_⟩
    rw [← p7, Nat.pow_succ]
    have : c % 128 * 128 ^ k ≤ 127 * 128 ^ k := Nat.mul_le_mul_right _ (by omega)
    omega

/-- the bytes from a place on -/
def rest (b : ByteArray) (p : Nat) : List UInt8 := b.data.toList.drop p
theorem rest_len (b : ByteArray) (p : Nat) : (rest b p).length = b.size - p := by
  unfold rest; rw [List.length_drop]; rfl
theorem rest_at (b : ByteArray) (p k : Nat) (h : p + k < b.size) : (rest b p).drop k = b[p + k] :: (rest b p).drop (k + 1) := by
  unfold rest
  rw [List.drop_drop, List.drop_drop]
  exact List.drop_eq_getElem_cons (by simpa using h)

structure GRel (D : Nat × Nat × Nat) (l : List UInt8) (k acc : Nat) : Prop where
  lt : acc < 18446744073709551616
  low : k < 10 → acc < 128 ^ k ∧ D = Pk.dec k acc (l.drop k)
  ten : k = 10 → D = (22, 0, 0)

theorem GRel.next {D : Nat × Nat × Nat} {b : ByteArray} {p k acc : Nat} {c : UInt8} (h : GRel D (rest b p) k acc) (hk : k < 10) (hs : p + k < b.size) (hc : b[((p : Int) + (k : Int)).toNat]'(by omega) = c) (h1 : 128 ≤ c.toNat) :
    ∃ acc' : Nat, bits .or .u64 (acc : Int) (IntKind.u64.wrap ((c.toNat : Int) % 128 * 2 ^ (7 * k))) = (acc' : Int) ∧ GRel D (rest b p) (k + 1) acc' := by
  obtain ⟨ha, hD⟩ := h.low hk
  obtain ⟨acc', e, hlt, hacc⟩ := gacc acc c.toNat k hk ha
  refine ⟨acc', e, hlt, ?_, ?_⟩
  · intro h9
    obtain ⟨e1, e2⟩ := hacc (.inl (by omega))
    refine ⟨e2 (by omega), ?_⟩
    rw [rest_at b p k hs] at hD
    have hc' : b[p + k] = c := hc
    rw [hc'] at hD
    simp only [Pk.dec, if_pos hk, if_pos h1] at hD
    rw [hD, e1]
  · intro h9
    rw [rest_at b p k hs] at hD
    have hc' : b[p + k] = c := hc
    rw [hc'] at hD
    simp only [Pk.dec, if_pos hk, if_pos h1] at hD
    rw [hD, h9]
    cases (List.drop 10 (rest b p)) <;> rfl
theorem GRel.bad {D : Nat × Nat × Nat} {b : ByteArray} {p k acc : Nat} {c : UInt8} (h : GRel D (rest b p) k acc) (hk : k < 10) (hs : p + k < b.size) (hc : b[((p : Int) + (k : Int)).toNat]'(by omega) = c) (h1 : c.toNat < 128)
    (h2 : (0 < k ∧ c.toNat = 0) ∨ (k = 9 ∧ 1 < c.toNat)) : D = (22, 0, 0) := by
  obtain ⟨ha, hD⟩ := h.low hk
  rw [rest_at b p k hs] at hD
  have hc' : b[p + k] = c := hc
  rw [hc'] at hD
  simp only [Pk.dec, if_pos hk, if_neg (show ¬ 128 ≤ c.toNat by omega), if_pos h2] at hD
  exact hD
theorem GRel.good {D : Nat × Nat × Nat} {b : ByteArray} {p k acc : Nat} {c : UInt8} (h : GRel D (rest b p) k acc) (hk : k < 10) (hs : p + k < b.size) (hc : b[((p : Int) + (k : Int)).toNat]'(by omega) = c) (h1 : c.toNat < 128)
    (h2 : ¬ ((0 < k ∧ c.toNat = 0) ∨ (k = 9 ∧ 1 < c.toNat))) : ∃ acc' : Nat, bits .or .u64 (acc : Int) (IntKind.u64.wrap ((c.toNat : Int) % 128 * 2 ^ (7 * k))) = (acc' : Int) ∧ D = (0, acc', k + 1) := by
  obtain ⟨ha, hD⟩ := h.low hk
  obtain ⟨acc', e, hlt, hacc⟩ := gacc acc c.toNat k hk ha
  refine ⟨acc', e, ?_⟩
  rw [rest_at b p k hs] at hD
  have hc' : b[p + k] = c := hc
  rw [hc'] at hD
  simp only [Pk.dec, if_pos hk, if_neg (show ¬ 128 ≤ c.toNat by omega), if_neg h2] at hD
  have hm : c.toNat % 128 = c.toNat := Nat.mod_eq_of_lt h1
  rw [hm] at hacc
  rw [hD, (hacc (by omega)).1]
theorem GRel.done {D : Nat × Nat × Nat} {b : ByteArray} {p k acc : Nat} (h : GRel D (rest b p) k acc) (hk : k < 10) (hs : b.size ≤ p + k) : D = (20, 0, 0) := by
  obtain ⟨ha, hD⟩ := h.low hk
  have e : (rest b p).drop k = [] := by apply List.drop_eq_nil_of_le; rw [rest_len]; omega
  rw [e] at hD
  simp only [Pk.dec, if_pos hk] at hD
  exact hD
theorem gSet1 (w : World) (B k n : Nat) {u : Value} : w.grownBy ((w.drewN n).setCell ⟨B, k, none⟩ u) (some B) :=
  ⟨rfl, rfl, rfl, by show _ ≤ (w.heap.modify B _).size; simp, fun i _ hi => Below.heap_setCell w ⟨B, k, none⟩ u i (fun e => hi (by rw [e]))⟩
end Go.Proofs.YtkfnedhllfdghaaGreatDoor
end

section
namespace Go.Proofs.YtkfnedhllfdghaaGreatDoor
set_option maxRecDepth 20000
open Go.RowKit

/-- what groups comes to -/
def GPost (w : World) (B p : Nat) (b : ByteArray) (f : Int) (D : Nat × Nat × Nat) (e : Ending) (w' : World) : Prop :=
  (∃ n m, D = (0, n, m) ∧ e = .returned (.int .u64 (n : Int)) ∧ Rd w' B b ((p + m : Nat) : Int) f ∧ w.grownBy w' (some B)) ∨
  (∃ k : Nat, k ≠ 0 ∧ D = (k, 0, 0) ∧ Gives e k ∧ ∃ n, w' = w.drewN n)

set_option maxHeartbeats 1600000 in
set_option maxRecDepth 40000 in
theorem groups_any {w : World} {B p : Nat} {b : ByteArray} {f : Int} (hRd : Rd w B b p f) (hp : p ≤ b.size) (hb : b.size ≤ 140737488351232) :
    Calls Tryz.prog 176 #[.pointer (some ⟨B, 0, none⟩)] w (GPost w B p b f (Pk.dec 0 0 (rest b p))) := by
  have c0 := hRd.c0
  have c1 := hRd.c1
  have z1 := hRd.z 1
  go_enter Tryz.func176, Tryz.ntmps176
  go_wp2_with (go_at_call 145; refine (left_any hRd (by omega) (by omega) hb).mono ?_; rintro e w' ⟨rfl, n, rfl⟩)
  all_goals go_loopw [3, 9] (fun v i wr => ∃ k acc : Nat, i = .int .i64 (k : Int) ∧ v = .int .u64 (acc : Int) ∧ k ≤ 10 ∧ p + k ≤ b.size ∧ GRel (Pk.dec 0 0 (rest b p)) (rest b p) k acc ∧ ∃ n, wr = w.drewN n) (fun _ i _ => 10 - (intOf i).toNat)
  all_goals try (case atStart => exact ⟨0, 0, rfl, rfl, by omega, by omega, ⟨by omega, fun _ => ⟨by decide, rfl⟩, fun h => by cases h⟩, _, rfl⟩)
  all_goals
    obtain ⟨k, acc, rfl, rfl, hk10, hpk, hG, n, rfl⟩ := hrel
    by_cases hlt : k < 10 ∧ p + k < b.size
    · have hl1 := hlt.1
      have hl2 := hlt.2
      clear hlt
      have hw : IntKind.i64.wrap ((p : Int) + (k : Int)) = ((p + k : Nat) : Int) := by rw [IntKind.wrap_i64]; omega
      have hi : 0 ≤ (p : Int) + (k : Int) ∧ (p : Int) + (k : Int) < (b.size : Int) := by omega
      obtain ⟨c, hc⟩ : ∃ c : UInt8, b[((p : Int) + (k : Int)).toNat]'(by omega) = c := ⟨_, rfl⟩
      rcases (show 128 ≤ c.toNat ∨ (c.toNat < 128 ∧ 0 < k ∧ c.toNat = 0) ∨ (c.toNat < 128 ∧ k = 9 ∧ 1 < c.toNat) ∨ (c.toNat < 128 ∧ k = 0) ∨ (c.toNat < 128 ∧ 0 < k ∧ 0 < c.toNat ∧ k ≠ 9) ∨ (k = 9 ∧ c.toNat = 1) by omega) with hA | ⟨hA, hB, hC⟩ | ⟨hA, hB, hC⟩ | ⟨hA, hB⟩ | ⟨hA, hB, hC, hE⟩ | ⟨hB, hA⟩
      · obtain ⟨acc', he, hG'⟩ := hG.next hl1 hl2 hc hA
        have HE : Hid (bits .or .u64 (acc : Int) (IntKind.u64.wrap ((c.toNat : Int) % 128 * 2 ^ (7 * k))) = (acc' : Int)) := he
        clear he hG
        go_wp2
        go_quiet (fail)
        go_wp2
        go_roundw
        case rel => exact ⟨k + 1, acc', by go_num, by rw [HE.out], by omega, by omega, hG', _, rfl⟩
        case measure => simp [intOf]; omega
      · have hD := hG.bad hl1 hl2 hc hA (.inl ⟨hB, hC⟩)
        clear hG
        have b0 : 0 < k := by omega
        go_wp2
        go_quiet (fail)
        go_wp2
        exact ⟨rfl, .inr ⟨22, by decide, hD, rfl, _, rfl⟩⟩
      · have hD := hG.bad hl1 hl2 hc hA (.inr ⟨hB, hC⟩)
        clear hG
        by_cases hbig : b.size < p + 10
        · exfalso; omega
        have b0 : 0 < k := by omega
        have b1 : ((c.toNat : Int) == 0) = false := by rw [beq_eq_false_iff_ne]; omega
        have b2 : decide ((1 : Int) < (c.toNat : Int)) = true := by simp; omega
        have b3 : ((k : Int) == 9) = true := by rw [beq_iff_eq]; omega
        clear hB
        go_wp2
        all_goals go_quiet (fail)
        all_goals go_wp2
        all_goals exact ⟨rfl, .inr ⟨22, by decide, hD, rfl, _, rfl⟩⟩
      · obtain ⟨acc', he, hD⟩ := hG.good hl1 hl2 hc hA (by omega)
        have HE : Hid (bits .or .u64 (acc : Int) (IntKind.u64.wrap ((c.toNat : Int) % 128 * 2 ^ (7 * k))) = (acc' : Int)) := he
        have HD : Hid (Pk.dec 0 0 (rest b p) = (0, acc', k + 1)) := hD
        have b0 : ¬ 0 < k := by omega
        have b3 : ((k : Int) == 9) = false := by rw [beq_eq_false_iff_ne]; omega
        clear he hD hG hB
        go_wp2
        go_quiet (fail)
        go_wp2
        go_ret
        exact .inl ⟨acc', _, HD.out, by rw [HE.out]; rfl, hRd.set1, gSet1 _ _ _ _⟩
      · obtain ⟨acc', he, hD⟩ := hG.good hl1 hl2 hc hA (by omega)
        have HE : Hid (bits .or .u64 (acc : Int) (IntKind.u64.wrap ((c.toNat : Int) % 128 * 2 ^ (7 * k))) = (acc' : Int)) := he
        have HD : Hid (Pk.dec 0 0 (rest b p) = (0, acc', k + 1)) := hD
        clear he hD hG
        have b0 : 0 < k := by omega
        have b1 : ((c.toNat : Int) == 0) = false := by rw [beq_eq_false_iff_ne]; omega
        have b2 : ((k : Int) == 9) = false := by rw [beq_eq_false_iff_ne]; omega
        go_wp2
        go_quiet (fail)
        go_wp2
        go_ret
        exact .inl ⟨acc', _, HD.out, by rw [HE.out]; rfl, hRd.set1, gSet1 _ _ _ _⟩
      · obtain ⟨acc', he, hD⟩ := hG.good hl1 hl2 hc (by omega) (by omega)
        have HE : Hid (bits .or .u64 (acc : Int) (IntKind.u64.wrap ((c.toNat : Int) % 128 * 2 ^ (7 * k))) = (acc' : Int)) := he
        have HD : Hid (Pk.dec 0 0 (rest b p) = (0, acc', k + 1)) := hD
        clear he hD hG
        by_cases hbig : b.size < p + 10
        · exfalso; omega
        have b0 : 0 < k := by omega
        have b1 : ((c.toNat : Int) == 0) = false := by rw [beq_eq_false_iff_ne]; omega
        have b2 : decide ((1 : Int) < (c.toNat : Int)) = false := by simp; omega
        have b3 : ((k : Int) == 9) = true := by rw [beq_iff_eq]; omega
        have b4 : decide ((128 : Int) ≤ (c.toNat : Int)) = false := by simp; omega
        clear hA hB
        go_wp2
        all_goals go_quiet (fail)
        all_goals go_wp2
        all_goals go_ret
        all_goals exact .inl ⟨acc', _, HD.out, by rw [HE.out]; rfl, hRd.set1, gSet1 _ _ _ _⟩
    · by_cases hbig : b.size < p + 10
      · have HD : Hid (Pk.dec 0 0 (rest b p) = (20, 0, 0)) := hG.done (by omega) (by omega)
        have b0 : decide ((k : Int) < (b.size : Int) - (p : Int)) = false := by simp; omega
        have b1 : decide ((b.size : Int) - (p : Int) < 10) = true := by simp; omega
        clear hG hlt
        go_wp2_with (go_at_call 145; refine (left_any (hRd.drew _) (by omega) (by omega) hb).mono ?_; rintro e w' ⟨rfl, n, rfl⟩)
        all_goals exact ⟨rfl, .inr ⟨20, by decide, HD.out, rfl, _, rfl⟩⟩
      · have HD : Hid (Pk.dec 0 0 (rest b p) = (22, 0, 0)) := hG.ten (by omega)
        have b0 : decide ((k : Int) < 10) = false := by simp; omega
        have b1 : decide ((b.size : Int) - (p : Int) < 10) = false := by simp; omega
        clear hG hlt
        go_wp2_with (go_at_call 145; refine (left_any (hRd.drew _) (by omega) (by omega) hb).mono ?_; rintro e w' ⟨rfl, n, rfl⟩)
        all_goals exact ⟨rfl, .inr ⟨22, by decide, HD.out, rfl, _, rfl⟩⟩
end Go.Proofs.YtkfnedhllfdghaaGreatDoor
end
