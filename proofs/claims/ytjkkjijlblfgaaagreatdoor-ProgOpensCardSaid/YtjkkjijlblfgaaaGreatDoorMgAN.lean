import Derived.Test.YtjkkjijlblfgaaaGreatDoorMgAG
import Derived.Deep.Cut
import Derived.Laws.BitsAllLaws
import Derived.Test.YtjkkjijlblfgaaaGreatDoorMgAB
import Derived.Defers
import Derived.Recover

section
namespace Go.Proofs.YtjkkjijlblfgaaaGreatDoor
open Go.RowKit

set_option maxHeartbeats 400000 in
theorem fault_any {w : World} {B : Nat} {b : ByteArray} {p f : Int} (h : Rd w B b p f) :
    Calls Tryz.prog 55 #[.pointer (some ⟨B, 0, none⟩)] w fun e w' => e = .returned (.tuple #[.int .i64 f, .int .i64 (if f = 0 then 0 else p)]) ∧ ∃ n, w' = w.drewN n := by
  have c1 := h.c1
  have c2 := h.c2
  by_cases hf : f = 0
  · subst hf
    go_enter Tryz.func55, Tryz.ntmps55
    go_wp2
    go_ret2
    exact ⟨rfl, 0, rfl⟩
  · have hf' : (f == 0) = false := by rw [beq_eq_false_iff_ne]; exact hf
    rw [if_neg hf]
    clear hf
    go_enter Tryz.func55, Tryz.ntmps55
    go_wp2
    go_quiet (fail)
    go_wp2
    go_ret2
    exact ⟨rfl, _, rfl⟩

/-- what End tells -/
def endE (b : ByteArray) (p f : Int) : Int := if f = 0 ∧ p < (b.size : Int) then 24 else f
def endP (b : ByteArray) (p f : Int) : Int := if f = 0 ∧ ¬ p < (b.size : Int) then 0 else p

set_option maxHeartbeats 400000 in
theorem end_any {w : World} {B : Nat} {b : ByteArray} {p f : Int} (h : Rd w B b p f) (hp0 : 0 ≤ p) (hp : p ≤ (b.size : Int)) (hb : b.size ≤ 140737488351232) :
    Calls Tryz.prog 26 #[.pointer (some ⟨B, 0, none⟩)] w fun e w' => e = .returned (.tuple #[.int .i64 (endE b p f), .int .i64 (endP b p f)]) ∧ ∃ n, w' = w.drewN n := by
  have c1 := h.c1
  have c2 := h.c2
  by_cases hf : f = 0
  · subst hf
    by_cases hl : p < (b.size : Int)
    · have e1 : endE b p 0 = 24 := by unfold endE; rw [if_pos ⟨rfl, hl⟩]
      have e2 : endP b p 0 = p := by unfold endP; rw [if_neg (fun k => k.2 hl)]
      rw [e1, e2]
      have hl' : decide (p < (b.size : Int)) = true := by simp; omega
      clear e1 e2 hl
      go_enter Tryz.func26, Tryz.ntmps26
      go_wp2_with (go_at_call 54; refine (left_any h hp0 hp hb).mono ?_; rintro e w' ⟨rfl, n, rfl⟩)
      go_quiet (fail)
      go_wp2
      go_ret2
      exact ⟨rfl, _, World.drewN_drewN _ _ _⟩
    · have e1 : endE b p 0 = 0 := by unfold endE; rw [if_neg (fun k => hl k.2)]
      have e2 : endP b p 0 = 0 := by unfold endP; rw [if_pos ⟨rfl, hl⟩]
      rw [e1, e2]
      have hl' : decide (p < (b.size : Int)) = false := by simp; omega
      have HF : ∀ w1 : World, Rd w1 B b p 0 → Calls Tryz.prog 55 #[.pointer (some ⟨B, 0, none⟩)] w1 fun e w' => e = .returned (.tuple #[.int .i64 0, .int .i64 0]) ∧ ∃ n, w' = w1.drewN n := fun w1 h1 => fault_any h1
      have HF' : Hid (∀ w1 : World, Rd w1 B b p 0 → Calls Tryz.prog 55 #[.pointer (some ⟨B, 0, none⟩)] w1 fun e w' => e = .returned (.tuple #[.int .i64 0, .int .i64 0]) ∧ ∃ n, w' = w1.drewN n) := HF
      clear e1 e2 hl HF
      go_enter Tryz.func26, Tryz.ntmps26
      go_wp2_with (first
        | (go_at_call 54; refine (left_any h hp0 hp hb).mono ?_; rintro e w' ⟨rfl, n, rfl⟩)
        | (go_at_call 55; refine (HF'.out _ (h.drew _)).mono ?_; rintro e w' ⟨rfl, m, rfl⟩))
      go_ret2
      exact ⟨rfl, _, rfl⟩
  · have hf' : (f == 0) = false := by rw [beq_eq_false_iff_ne]; exact hf
    have e1 : endE b p f = f := by unfold endE; rw [if_neg (fun k => hf k.1)]
    have e2 : endP b p f = p := by unfold endP; rw [if_neg (fun k => hf k.1)]
    have e3 : (if f = 0 then 0 else p) = p := if_neg hf
    have hfa := fault_any h
    rw [e3] at hfa
    have HF : Hid (Calls Tryz.prog 55 #[.pointer (some ⟨B, 0, none⟩)] w fun e w' => e = .returned (.tuple #[.int .i64 f, .int .i64 p]) ∧ ∃ n, w' = w.drewN n) := hfa
    clear hfa
    rw [e1, e2]
    clear e1 e2 e3 hf
    go_enter Tryz.func26, Tryz.ntmps26
    go_wp2_with (go_at_call 55; refine HF.out.mono ?_; rintro e w' ⟨rfl, m, rfl⟩)
    go_ret2
    exact ⟨rfl, _, rfl⟩

/-- a panic with an error's number -/
def Gives (e : Ending) (k : Int) : Prop := e = .panicked [{ v := .iface 25 (.int .i64 k), recovered := false }]

theorem gSet (w : World) (B k n m : Nat) {u : Value} : w.grownBy (((w.drewN n).setCell ⟨B, k, none⟩ u).drewN m) (some B) :=
  ⟨rfl, rfl, rfl, by show _ ≤ (w.heap.modify B _).size; simp, fun i _ hi => Below.heap_setCell w ⟨B, k, none⟩ u i (fun e => hi (by rw [e]))⟩
set_option maxHeartbeats 400000 in
theorem take_any {w : World} {B : Nat} {b : ByteArray} {p m f : Int} (h : Rd w B b p f) (hp0 : 0 ≤ p) (hp : p ≤ (b.size : Int)) (hb : b.size ≤ 140737488351232) (hm0 : 0 ≤ m) (hm : m ≤ (b.size : Int) - p) :
    Calls Tryz.prog 85 #[.pointer (some ⟨B, 0, none⟩), .int .i64 m] w fun e w' =>
      e = .returned (.string (b.extract p.toNat (p + m).toNat)) ∧ Rd w' B b (p + m) f ∧ w.grownBy w' (some B) := by
  have c0 := h.c0
  have c1 := h.c1
  have z1 := h.z 1
  have hm' : decide ((b.size : Int) - p < m) = false := by simp; omega
  have c0' := (h.set1 (q := p + m)).c0
  have c1' := (h.set1 (q := p + m)).c1
  go_enter Tryz.func85, Tryz.ntmps85
  go_wp2_with (go_at_call 54; refine (left_any h hp0 hp hb).mono ?_; rintro e w' ⟨rfl, n, rfl⟩)
  go_quiet (fail)
  go_wp2
  go_ret
  exact ⟨rfl, h.set1, gSet _ _ _ _ _⟩
set_option maxHeartbeats 400000 in
theorem take_short {w : World} {B : Nat} {b : ByteArray} {p m f : Int} (h : Rd w B b p f) (hp0 : 0 ≤ p) (hp : p ≤ (b.size : Int)) (hb : b.size ≤ 140737488351232) (hm : ¬ m ≤ (b.size : Int) - p) :
    Calls Tryz.prog 85 #[.pointer (some ⟨B, 0, none⟩), .int .i64 m] w fun e w' => Gives e 20 ∧ ∃ n, w' = w.drewN n := by
  have hm' : decide ((b.size : Int) - p < m) = true := by simp; omega
  go_enter Tryz.func85, Tryz.ntmps85
  go_wp2_with (go_at_call 54; refine (left_any h hp0 hp hb).mono ?_; rintro e w' ⟨rfl, n, rfl⟩)
  exact ⟨rfl, rfl, _, rfl⟩
end Go.Proofs.YtjkkjijlblfgaaaGreatDoor
end

section
namespace Go.Proofs.YtjkkjijlblfgaaaGreatDoor
open Go.RowKit

theorem wrapU (x : Nat) : IntKind.u64.wrap (x : Int) = ((x % 18446744073709551616 : Nat) : Int) := by rw [IntKind.wrap_u64]; omega
theorem p7 (k : Nat) : (128 : Nat) ^ k = 2 ^ (7 * k) := by rw [show (128 : Nat) = 2 ^ 7 by decide, ← Nat.pow_mul]

theorem gacc (acc c k : Nat) (hk : k < 10) (ha : acc < 128 ^ k) : ∃ acc' : Nat, bits .or .u64 (acc : Int) (IntKind.u64.wrap ((c : Int) % 128 * 2 ^ (7 * k))) = (acc' : Int) ∧ acc' < 18446744073709551616 ∧
    ((k ≤ 8 ∨ c % 128 ≤ 1) → acc' = acc + (c % 128) * 128 ^ k ∧ (k ≤ 8 → acc' < 128 ^ (k + 1))) := by
  have e1 : (c : Int) % 128 * 2 ^ (7 * k) = ((c % 128 * 2 ^ (7 * k) : Nat) : Int) := by simp
  have hp9 : 128 ^ k ≤ 9223372036854775808 := by
    have : (128 : Nat) ^ k ≤ 128 ^ 9 := Nat.pow_le_pow_right (by decide) (by omega)
    rw [Pk.p9] at this; exact this
  have hm := Nat.mod_lt (c % 128 * 2 ^ (7 * k)) (show 0 < 18446744073709551616 by decide)
  rw [e1, wrapU, u64_or_nat _ _ (by omega) hm]
  refine ⟨_, rfl, ?_, ?_⟩
  · have : (acc ||| c % 128 * 2 ^ (7 * k) % 18446744073709551616) < 2 ^ 64 := Nat.or_lt_two_pow (by omega) (by omega)
    omega
  · intro h
    have hX : c % 128 * 2 ^ (7 * k) < 18446744073709551616 := by
      rw [← p7]
      rcases h with h | h
      · have : (128 : Nat) ^ k ≤ 128 ^ 8 := Nat.pow_le_pow_right (by decide) h
        have e : (128 : Nat) ^ 8 = 72057594037927936 := by decide
        have : c % 128 * 128 ^ k ≤ 127 * 72057594037927936 := Nat.mul_le_mul (by omega) (by omega)
        omega
      · have : c % 128 * 128 ^ k ≤ 1 * 9223372036854775808 := Nat.mul_le_mul h hp9
        omega
    rw [Nat.mod_eq_of_lt hX, Nat.or_comm, nat_join (7 * k) _ _ (Nat.mul_mod_left _ _) (by rw [← p7]; exact ha), p7]
    refine ⟨by omega, fun _ => ?_⟩
    rw [← p7, Nat.pow_succ]
    have : c % 128 * 128 ^ k ≤ 127 * 128 ^ k := Nat.mul_le_mul_right _ (by omega)
    omega

/-- the bytes from a place on -/
def rest (b : ByteArray) (p : Nat) : List UInt8 := b.data.toList.drop p
theorem rest_len (b : ByteArray) (p : Nat) : (rest b p).length = b.size - p := by
  unfold rest; rw [List.length_drop]; rfl
theorem rest_at (b : ByteArray) (p k : Nat) (h : p + k < b.size) : (rest b p).drop k = b[p + k] :: (rest b p).drop (k + 1) := by
  unfold rest
  rw [List.drop_drop, List.drop_drop]
  exact List.drop_eq_getElem_cons (by simpa using h)

structure GRel (D : Nat × Nat × Nat) (l : List UInt8) (k acc : Nat) : Prop where
  lt : acc < 18446744073709551616
  low : k < 10 → acc < 128 ^ k ∧ D = Pk.dec k acc (l.drop k)
  ten : k = 10 → D = (22, 0, 0)

theorem GRel.next {D : Nat × Nat × Nat} {b : ByteArray} {p k acc : Nat} {c : UInt8} (h : GRel D (rest b p) k acc) (hk : k < 10) (hs : p + k < b.size) (hc : b[((p : Int) + (k : Int)).toNat]'(by omega) = c) (h1 : 128 ≤ c.toNat) :
    ∃ acc' : Nat, bits .or .u64 (acc : Int) (IntKind.u64.wrap ((c.toNat : Int) % 128 * 2 ^ (7 * k))) = (acc' : Int) ∧ GRel D (rest b p) (k + 1) acc' := by
  obtain ⟨ha, hD⟩ := h.low hk
  obtain ⟨acc', e, hlt, hacc⟩ := gacc acc c.toNat k hk ha
  refine ⟨acc', e, hlt, ?_, ?_⟩
  · intro h9
    obtain ⟨e1, e2⟩ := hacc (.inl (by omega))
    refine ⟨e2 (by omega), ?_⟩
    rw [rest_at b p k hs] at hD
    have hc' : b[p + k] = c := hc
    rw [hc'] at hD
    simp only [Pk.dec, if_pos hk, if_pos h1] at hD
    rw [hD, e1]
  · intro h9
    rw [rest_at b p k hs] at hD
    have hc' : b[p + k] = c := hc
    rw [hc'] at hD
    simp only [Pk.dec, if_pos hk, if_pos h1] at hD
    rw [hD, h9]
    cases (List.drop 10 (rest b p)) <;> rfl
theorem GRel.bad {D : Nat × Nat × Nat} {b : ByteArray} {p k acc : Nat} {c : UInt8} (h : GRel D (rest b p) k acc) (hk : k < 10) (hs : p + k < b.size) (hc : b[((p : Int) + (k : Int)).toNat]'(by omega) = c) (h1 : c.toNat < 128)
    (h2 : (0 < k ∧ c.toNat = 0) ∨ (k = 9 ∧ 1 < c.toNat)) : D = (22, 0, 0) := by
  obtain ⟨ha, hD⟩ := h.low hk
  rw [rest_at b p k hs] at hD
  have hc' : b[p + k] = c := hc
  rw [hc'] at hD
  simp only [Pk.dec, if_pos hk, if_neg (show ¬ 128 ≤ c.toNat by omega), if_pos h2] at hD
  exact hD
theorem GRel.good {D : Nat × Nat × Nat} {b : ByteArray} {p k acc : Nat} {c : UInt8} (h : GRel D (rest b p) k acc) (hk : k < 10) (hs : p + k < b.size) (hc : b[((p : Int) + (k : Int)).toNat]'(by omega) = c) (h1 : c.toNat < 128)
    (h2 : ¬ ((0 < k ∧ c.toNat = 0) ∨ (k = 9 ∧ 1 < c.toNat))) : ∃ acc' : Nat, bits .or .u64 (acc : Int) (IntKind.u64.wrap ((c.toNat : Int) % 128 * 2 ^ (7 * k))) = (acc' : Int) ∧ D = (0, acc', k + 1) := by
  obtain ⟨ha, hD⟩ := h.low hk
  obtain ⟨acc', e, hlt, hacc⟩ := gacc acc c.toNat k hk ha
  refine ⟨acc', e, ?_⟩
  rw [rest_at b p k hs] at hD
  have hc' : b[p + k] = c := hc
  rw [hc'] at hD
  simp only [Pk.dec, if_pos hk, if_neg (show ¬ 128 ≤ c.toNat by omega), if_neg h2] at hD
  have hm : c.toNat % 128 = c.toNat := Nat.mod_eq_of_lt h1
  rw [hm] at hacc
  rw [hD, (hacc (by omega)).1]
theorem GRel.done {D : Nat × Nat × Nat} {b : ByteArray} {p k acc : Nat} (h : GRel D (rest b p) k acc) (hk : k < 10) (hs : b.size ≤ p + k) : D = (20, 0, 0) := by
  obtain ⟨ha, hD⟩ := h.low hk
  have e : (rest b p).drop k = [] := by apply List.drop_eq_nil_of_le; rw [rest_len]; omega
  rw [e] at hD
  simp only [Pk.dec, if_pos hk] at hD
  exact hD
theorem gSet1 (w : World) (B k n : Nat) {u : Value} : w.grownBy ((w.drewN n).setCell ⟨B, k, none⟩ u) (some B) :=
  ⟨rfl, rfl, rfl, by show _ ≤ (w.heap.modify B _).size; simp, fun i _ hi => Below.heap_setCell w ⟨B, k, none⟩ u i (fun e => hi (by rw [e]))⟩
end Go.Proofs.YtjkkjijlblfgaaaGreatDoor
end

section
namespace Go.Proofs.YtjkkjijlblfgaaaGreatDoor
open Go.RowKit

/-- what groups comes to -/
def GPost (w : World) (B p : Nat) (b : ByteArray) (f : Int) (D : Nat × Nat × Nat) (e : Ending) (w' : World) : Prop :=
  (∃ n m, D = (0, n, m) ∧ e = .returned (.int .u64 (n : Int)) ∧ Rd w' B b ((p + m : Nat) : Int) f ∧ w.grownBy w' (some B)) ∨
  (∃ k : Nat, k ≠ 0 ∧ D = (k, 0, 0) ∧ Gives e k ∧ ∃ n, w' = w.drewN n)

set_option maxHeartbeats 1600000 in
set_option maxRecDepth 40000 in
theorem groups_any {w : World} {B p : Nat} {b : ByteArray} {f : Int} (hRd : Rd w B b p f) (hp : p ≤ b.size) (hb : b.size ≤ 140737488351232) :
    Calls Tryz.prog 80 #[.pointer (some ⟨B, 0, none⟩)] w (GPost w B p b f (Pk.dec 0 0 (rest b p))) := by
  have c0 := hRd.c0
  have c1 := hRd.c1
  have z1 := hRd.z 1
  go_enter Tryz.func80, Tryz.ntmps80
  go_wp2_with (go_at_call 54; refine (left_any hRd (by omega) (by omega) hb).mono ?_; rintro e w' ⟨rfl, n, rfl⟩)
  all_goals go_loopw [3, 9] (fun v i wr => ∃ k acc : Nat, i = .int .i64 (k : Int) ∧ v = .int .u64 (acc : Int) ∧ k ≤ 10 ∧ p + k ≤ b.size ∧ GRel (Pk.dec 0 0 (rest b p)) (rest b p) k acc ∧ ∃ n, wr = w.drewN n) (fun _ i _ => 10 - (intOf i).toNat)
  all_goals try (case atStart => exact ⟨0, 0, rfl, rfl, by omega, by omega, ⟨by omega, fun _ => ⟨by decide, rfl⟩, fun h => by cases h⟩, _, rfl⟩)
  all_goals
    obtain ⟨k, acc, rfl, rfl, hk10, hpk, hG, n, rfl⟩ := hrel
    by_cases hlt : k < 10 ∧ p + k < b.size
    · have hl1 := hlt.1
      have hl2 := hlt.2
      clear hlt
      have hw : IntKind.i64.wrap ((p : Int) + (k : Int)) = ((p + k : Nat) : Int) := by rw [IntKind.wrap_i64]; omega
      have hi : 0 ≤ (p : Int) + (k : Int) ∧ (p : Int) + (k : Int) < (b.size : Int) := by omega
      obtain ⟨c, hc⟩ : ∃ c : UInt8, b[((p : Int) + (k : Int)).toNat]'(by omega) = c := ⟨_, rfl⟩
      rcases (show 128 ≤ c.toNat ∨ (c.toNat < 128 ∧ 0 < k ∧ c.toNat = 0) ∨ (c.toNat < 128 ∧ k = 9 ∧ 1 < c.toNat) ∨ (c.toNat < 128 ∧ k = 0) ∨ (c.toNat < 128 ∧ 0 < k ∧ 0 < c.toNat ∧ k ≠ 9) ∨ (k = 9 ∧ c.toNat = 1) by omega) with hA | ⟨hA, hB, hC⟩ | ⟨hA, hB, hC⟩ | ⟨hA, hB⟩ | ⟨hA, hB, hC, hE⟩ | ⟨hB, hA⟩
      · obtain ⟨acc', he, hG'⟩ := hG.next hl1 hl2 hc hA
        have HE : Hid (bits .or .u64 (acc : Int) (IntKind.u64.wrap ((c.toNat : Int) % 128 * 2 ^ (7 * k))) = (acc' : Int)) := he
        clear he hG
        go_wp2
        go_quiet (fail)
        go_wp2
        go_roundw
        case rel => exact ⟨k + 1, acc', by go_num, by rw [HE.out], by omega, by omega, hG', _, rfl⟩
        case measure => simp [intOf]; omega
      · have hD := hG.bad hl1 hl2 hc hA (.inl ⟨hB, hC⟩)
        clear hG
        have b0 : 0 < k := by omega
        go_wp2
        go_quiet (fail)
        go_wp2
        exact ⟨rfl, .inr ⟨22, by decide, hD, rfl, _, rfl⟩⟩
      · have hD := hG.bad hl1 hl2 hc hA (.inr ⟨hB, hC⟩)
        clear hG
        by_cases hbig : b.size < p + 10
        · exfalso; omega
        have b0 : 0 < k := by omega
        have b1 : ((c.toNat : Int) == 0) = false := by rw [beq_eq_false_iff_ne]; omega
        have b2 : decide ((1 : Int) < (c.toNat : Int)) = true := by simp; omega
        have b3 : ((k : Int) == 9) = true := by rw [beq_iff_eq]; omega
        clear hB
        go_wp2
        all_goals go_quiet (fail)
        all_goals go_wp2
        all_goals exact ⟨rfl, .inr ⟨22, by decide, hD, rfl, _, rfl⟩⟩
      · obtain ⟨acc', he, hD⟩ := hG.good hl1 hl2 hc hA (by omega)
        have HE : Hid (bits .or .u64 (acc : Int) (IntKind.u64.wrap ((c.toNat : Int) % 128 * 2 ^ (7 * k))) = (acc' : Int)) := he
        have HD : Hid (Pk.dec 0 0 (rest b p) = (0, acc', k + 1)) := hD
        have b0 : ¬ 0 < k := by omega
        have b3 : ((k : Int) == 9) = false := by rw [beq_eq_false_iff_ne]; omega
        clear he hD hG hB
        go_wp2
        go_quiet (fail)
        go_wp2
        go_ret
        exact .inl ⟨acc', _, HD.out, by rw [HE.out]; rfl, hRd.set1, gSet1 _ _ _ _⟩
      · obtain ⟨acc', he, hD⟩ := hG.good hl1 hl2 hc hA (by omega)
        have HE : Hid (bits .or .u64 (acc : Int) (IntKind.u64.wrap ((c.toNat : Int) % 128 * 2 ^ (7 * k))) = (acc' : Int)) := he
        have HD : Hid (Pk.dec 0 0 (rest b p) = (0, acc', k + 1)) := hD
        clear he hD hG
        have b0 : 0 < k := by omega
        have b1 : ((c.toNat : Int) == 0) = false := by rw [beq_eq_false_iff_ne]; omega
        have b2 : ((k : Int) == 9) = false := by rw [beq_eq_false_iff_ne]; omega
        go_wp2
        go_quiet (fail)
        go_wp2
        go_ret
        exact .inl ⟨acc', _, HD.out, by rw [HE.out]; rfl, hRd.set1, gSet1 _ _ _ _⟩
      · obtain ⟨acc', he, hD⟩ := hG.good hl1 hl2 hc (by omega) (by omega)
        have HE : Hid (bits .or .u64 (acc : Int) (IntKind.u64.wrap ((c.toNat : Int) % 128 * 2 ^ (7 * k))) = (acc' : Int)) := he
        have HD : Hid (Pk.dec 0 0 (rest b p) = (0, acc', k + 1)) := hD
        clear he hD hG
        by_cases hbig : b.size < p + 10
        · exfalso; omega
        have b0 : 0 < k := by omega
        have b1 : ((c.toNat : Int) == 0) = false := by rw [beq_eq_false_iff_ne]; omega
        have b2 : decide ((1 : Int) < (c.toNat : Int)) = false := by simp; omega
        have b3 : ((k : Int) == 9) = true := by rw [beq_iff_eq]; omega
        have b4 : decide ((128 : Int) ≤ (c.toNat : Int)) = false := by simp; omega
        clear hA hB
        go_wp2
        all_goals go_quiet (fail)
        all_goals go_wp2
        all_goals go_ret
        all_goals exact .inl ⟨acc', _, HD.out, by rw [HE.out]; rfl, hRd.set1, gSet1 _ _ _ _⟩
    · by_cases hbig : b.size < p + 10
      · have HD : Hid (Pk.dec 0 0 (rest b p) = (20, 0, 0)) := hG.done (by omega) (by omega)
        have b0 : decide ((k : Int) < (b.size : Int) - (p : Int)) = false := by simp; omega
        have b1 : decide ((b.size : Int) - (p : Int) < 10) = true := by simp; omega
        clear hG hlt
        go_wp2_with (go_at_call 54; refine (left_any (hRd.drew _) (by omega) (by omega) hb).mono ?_; rintro e w' ⟨rfl, n, rfl⟩)
        all_goals exact ⟨rfl, .inr ⟨20, by decide, HD.out, rfl, _, rfl⟩⟩
      · have HD : Hid (Pk.dec 0 0 (rest b p) = (22, 0, 0)) := hG.ten (by omega)
        have b0 : decide ((k : Int) < 10) = false := by simp; omega
        have b1 : decide ((b.size : Int) - (p : Int) < 10) = false := by simp; omega
        clear hG hlt
        go_wp2_with (go_at_call 54; refine (left_any (hRd.drew _) (by omega) (by omega) hb).mono ?_; rintro e w' ⟨rfl, n, rfl⟩)
        all_goals exact ⟨rfl, .inr ⟨22, by decide, HD.out, rfl, _, rfl⟩⟩
end Go.Proofs.YtjkkjijlblfgaaaGreatDoor
end

section
namespace Go.Proofs.YtjkkjijlblfgaaaGreatDoor
open Go.RowKit

/-- what number comes to -/
def NPost (w : World) (B p : Nat) (b : ByteArray) (f : Int) (D : Nat × Nat × Nat) (most : Nat) (above : Int) (e : Ending) (w' : World) : Prop :=
  (∃ n m, D = (0, n, m) ∧ n ≤ most ∧ e = .returned (.int .u64 (n : Int)) ∧ Rd w' B b ((p + m : Nat) : Int) f ∧ w.grownBy w' (some B)) ∨
  (∃ n m, D = (0, n, m) ∧ most < n ∧ Gives e above ∧ (∃ q : Int, Rd w' B b q f) ∧ w.grownBy w' (some B)) ∨
  (∃ k : Nat, k ≠ 0 ∧ D = (k, 0, 0) ∧ Gives e k ∧ (∃ q : Int, Rd w' B b q f) ∧ w.grownBy w' (some B))

theorem grown_drew (w : World) (n : Nat) (r : Option Nat) : w.grownBy (w.drewN n) r := ⟨rfl, rfl, rfl, Nat.le_refl _, fun _ _ _ => rfl⟩

set_option maxHeartbeats 400000 in
theorem number_any {w : World} {B p most : Nat} {b : ByteArray} {f above : Int} (h : Rd w B b p f) (hp : p ≤ b.size) (hb : b.size ≤ 140737488351232) :
    Calls Tryz.prog 47 #[.pointer (some ⟨B, 0, none⟩), .int .u64 (most : Int), .int .i64 above] w (NPost w B p b f (Pk.dec 0 0 (rest b p)) most above) := by
  go_enter Tryz.func47, Tryz.ntmps47
  go_wp2_with fail
  refine (groups_any h hp hb).mono ?_
  rintro e w' (⟨n, m, hD, rfl, hR, hg⟩ | ⟨k, hk, hD, he, n, rfl⟩)
  · have HD : Hid (Pk.dec 0 0 (rest b p) = (0, n, m)) := hD
    clear hD
    by_cases hn : n ≤ most
    · have b0 : decide ((most : Int) < (n : Int)) = false := by simp; omega
      go_wp2_with fail
      go_ret
      exact .inl ⟨n, m, HD.out, hn, rfl, hR, hg⟩
    · have b0 : decide ((most : Int) < (n : Int)) = true := by simp; omega
      go_wp2_with fail
      exact ⟨rfl, .inr (.inl ⟨n, m, HD.out, by omega, rfl, ⟨_, hR⟩, hg⟩)⟩
  · have HD : Hid (Pk.dec 0 0 (rest b p) = (k, 0, 0)) := hD
    clear hD
    unfold Gives at he
    subst he
    go_wp2_with fail
    exact ⟨rfl, .inr (.inr ⟨k, hk, HD.out, rfl, ⟨_, h.drew n⟩, grown_drew _ _ _⟩)⟩
end Go.Proofs.YtjkkjijlblfgaaaGreatDoor
end

section
namespace Go.Proofs.YtjkkjijlblfgaaaGreatDoor
open Go.RowKit

/-- what count comes to -/
def CPost (w : World) (B p : Nat) (b : ByteArray) (f : Int) (D : Nat × Nat × Nat) (most : Nat) (e : Ending) (w' : World) : Prop :=
  (∃ n m, D = (0, n, m) ∧ n ≤ most ∧ e = .returned (.int .i64 (n : Int)) ∧ Rd w' B b ((p + m : Nat) : Int) f ∧ w.grownBy w' (some B)) ∨
  (∃ n m, D = (0, n, m) ∧ most < n ∧ Gives e 23 ∧ (∃ q : Int, Rd w' B b q f) ∧ w.grownBy w' (some B)) ∨
  (∃ k : Nat, k ≠ 0 ∧ D = (k, 0, 0) ∧ Gives e k ∧ (∃ q : Int, Rd w' B b q f) ∧ w.grownBy w' (some B))

set_option maxHeartbeats 400000 in
theorem count_pos {w : World} {B p most : Nat} {b : ByteArray} {f : Int} (h : Rd w B b p f) (hp : p ≤ b.size) (hb : b.size ≤ 140737488351232) (hm : most ≤ 9223372036854775807) :
    Calls Tryz.prog 50 #[.pointer (some ⟨B, 0, none⟩), .int .i64 (most : Int)] w (CPost w B p b f (Pk.dec 0 0 (rest b p)) most) := by
  go_enter Tryz.func50, Tryz.ntmps50
  go_wp2_with fail
  refine (number_any (most := most) h hp hb).mono ?_
  rintro e w' (⟨n, m, hD, hn, rfl, hR, hg⟩ | ⟨n, m, hD, hn, he, hR, hg⟩ | ⟨k, hk, hD, he, hR, hg⟩)
  · have HD : Hid (Pk.dec 0 0 (rest b p) = (0, n, m)) := hD
    clear hD
    go_wp2_with fail
    go_ret
    exact .inl ⟨n, m, HD.out, hn, by go_num, hR, hg⟩
  · have HD : Hid (Pk.dec 0 0 (rest b p) = (0, n, m)) := hD
    clear hD
    unfold Gives at he
    subst he
    go_wp2_with fail
    exact ⟨rfl, .inr (.inl ⟨n, m, HD.out, hn, rfl, hR, hg⟩)⟩
  · have HD : Hid (Pk.dec 0 0 (rest b p) = (k, 0, 0)) := hD
    clear hD
    unfold Gives at he
    subst he
    go_wp2_with fail
    exact ⟨rfl, .inr (.inr ⟨k, hk, HD.out, rfl, hR, hg⟩)⟩
set_option maxRecDepth 8000 in
set_option maxHeartbeats 400000 in
theorem count_neg {w : World} {B p : Nat} {most : Int} {b : ByteArray} {f : Int} (h : Rd w B b p f) (hp : p ≤ b.size) (hb : b.size ≤ 140737488351232) (hm : most < 0) :
    Calls Tryz.prog 50 #[.pointer (some ⟨B, 0, none⟩), .int .i64 most] w (CPost w B p b f (Pk.dec 0 0 (rest b p)) 0) := by
  go_enter Tryz.func50, Tryz.ntmps50
  have HN' : Hid (Calls Tryz.prog 47 #[.pointer (some ⟨B, 0, none⟩), .int .u64 0, .int .i64 23] w (NPost w B p b f (Pk.dec 0 0 (rest b p)) 0 23)) := number_any (most := 0) (above := 23) h hp hb
  go_wp2_with fail
  refine HN'.out.mono ?_
  rintro e w' (⟨n, m, hD, hn, rfl, hR, hg⟩ | ⟨n, m, hD, hn, he, hR, hg⟩ | ⟨k, hk, hD, he, hR, hg⟩)
  · have HD : Hid (Pk.dec 0 0 (rest b p) = (0, n, m)) := hD
    clear hD
    go_wp2_with fail
    go_ret
    exact .inl ⟨n, m, HD.out, hn, by go_num, hR, hg⟩
  · have HD : Hid (Pk.dec 0 0 (rest b p) = (0, n, m)) := hD
    clear hD
    unfold Gives at he
    subst he
    go_wp2_with fail
    exact ⟨rfl, .inr (.inl ⟨n, m, HD.out, hn, rfl, hR, hg⟩)⟩
  · have HD : Hid (Pk.dec 0 0 (rest b p) = (k, 0, 0)) := hD
    clear hD
    unfold Gives at he
    subst he
    go_wp2_with fail
    exact ⟨rfl, .inr (.inr ⟨k, hk, HD.out, rfl, hR, hg⟩)⟩
theorem count_any {w : World} {B p : Nat} {most : Int} {b : ByteArray} {f : Int} (h : Rd w B b p f) (hp : p ≤ b.size) (hb : b.size ≤ 140737488351232) (hm : most ≤ 9223372036854775807) :
    Calls Tryz.prog 50 #[.pointer (some ⟨B, 0, none⟩), .int .i64 most] w (CPost w B p b f (Pk.dec 0 0 (rest b p)) most.toNat) := by
  rcases Int.lt_or_le most 0 with h0 | h0
  · rw [show most.toNat = 0 by omega]; exact count_neg h hp hb h0
  · obtain ⟨n, rfl⟩ := Int.eq_ofNat_of_zero_le h0
    exact count_pos h hp hb (by omega)

def RPost (w : World) (B : Nat) (b : ByteArray) (A : Value) (q k : Nat) (e : Ending) (w' : World) : Prop :=
  (k = 0 ∧ e = .returned A ∧ Rd w' B b (q : Int) 0 ∧ w.grownBy w' (some B)) ∨ (k ≠ 0 ∧ Gives e k ∧ (∃ q : Int, Rd w' B b q 0) ∧ w.grownBy w' (some B))

/-- Num's outcome: the error's number (0: none), the number, the place -/
def numK (b : ByteArray) (p most : Nat) (above : Nat) : Nat := if (Pk.dec 0 0 (rest b p)).1 ≠ 0 then (Pk.dec 0 0 (rest b p)).1 else if most < (Pk.dec 0 0 (rest b p)).2.1 then above else 0
def numV (b : ByteArray) (p : Nat) : Nat := (Pk.dec 0 0 (rest b p)).2.1
def numQ (b : ByteArray) (p : Nat) : Nat := p + (Pk.dec 0 0 (rest b p)).2.2
theorem numK_ok {b : ByteArray} {p most above n m : Nat} (h : Pk.dec 0 0 (rest b p) = (0, n, m)) (hn : n ≤ most) : numK b p most above = 0 := by
  unfold numK; rw [h]; simp; omega
theorem numK_above {b : ByteArray} {p most above n m : Nat} (h : Pk.dec 0 0 (rest b p) = (0, n, m)) (hn : most < n) : numK b p most above = above := by
  unfold numK; rw [h]; simp; omega
theorem numK_bad {b : ByteArray} {p most above k : Nat} (h : Pk.dec 0 0 (rest b p) = (k, 0, 0)) (hk : k ≠ 0) : numK b p most above = k := by
  unfold numK; rw [h]; simp [hk]

set_option maxHeartbeats 400000 in
theorem num1_any {w : World} {B X Y p most : Nat} {b : ByteArray} (h : Rd w B b p 0) (hp : p ≤ b.size) (hb : b.size ≤ 140737488351232)
    (hX : w.cell? ⟨X, 0, none⟩ = some (.pointer (some ⟨B, 0, none⟩))) (hY : w.cell? ⟨Y, 0, none⟩ = some (.int .u64 (most : Int))) :
    Calls Tryz.prog 46 #[.pointer (some ⟨X, 0, none⟩), .pointer (some ⟨Y, 0, none⟩)] w (RPost w B b (.int .u64 (numV b p : Int)) (numQ b p) (numK b p most 21)) := by
  go_enter Tryz.func46, Tryz.ntmps46
  go_wp2_with fail
  refine (number_any (most := most) h hp hb).mono ?_
  rintro e w' (⟨n, m, hD, hn, rfl, hR, hg⟩ | ⟨n, m, hD, hn, he, hR, hg⟩ | ⟨k, hk, hD, he, hR, hg⟩)
  · have HK : Hid (numK b p most 21 = 0) := numK_ok hD hn
    have HV : Hid (numV b p = n) := (show numV b p = n by unfold numV; rw [hD])
    have HQ : Hid (numQ b p = p + m) := (show numQ b p = p + m by unfold numQ; rw [hD])
    clear hD
    go_wp2_with fail
    go_ret
    exact .inl ⟨HK.out, by rw [HV.out]; rfl, by rw [HQ.out]; exact hR, hg⟩
  · have HK : Hid (numK b p most 21 = 21) := numK_above hD hn
    clear hD
    unfold Gives at he
    subst he
    go_wp2_with fail
    exact ⟨rfl, .inr ⟨by rw [HK.out]; decide, by rw [HK.out]; rfl, hR, hg⟩⟩
  · have HK : Hid (numK b p most 21 = k) := numK_bad hD hk
    clear hD
    unfold Gives at he
    subst he
    go_wp2_with fail
    exact ⟨rfl, .inr ⟨by rw [HK.out]; exact hk, by rw [HK.out]; rfl, hR, hg⟩⟩
end Go.Proofs.YtjkkjijlblfgaaaGreatDoor
end

section
namespace Go.Proofs.YtjkkjijlblfgaaaGreatDoor
open Go.RowKit

set_option maxHeartbeats 400000 in
theorem list1_any {w : World} {B X Y p : Nat} {most : Int} {b : ByteArray} (h : Rd w B b p 0) (hp : p ≤ b.size) (hb : b.size ≤ 140737488351232) (hm : most ≤ 9223372036854775807)
    (hX : w.cell? ⟨X, 0, none⟩ = some (.pointer (some ⟨B, 0, none⟩))) (hY : w.cell? ⟨Y, 0, none⟩ = some (.int .i64 most)) :
    Calls Tryz.prog 49 #[.pointer (some ⟨X, 0, none⟩), .pointer (some ⟨Y, 0, none⟩)] w (RPost w B b (.int .i64 (numV b p : Int)) (numQ b p) (numK b p most.toNat 23)) := by
  go_enter Tryz.func49, Tryz.ntmps49
  go_wp2_with fail
  refine (count_any h hp hb hm).mono ?_
  rintro e w' (⟨n, m, hD, hn, rfl, hR, hg⟩ | ⟨n, m, hD, hn, he, hR, hg⟩ | ⟨k, hk, hD, he, hR, hg⟩)
  · have HK : Hid (numK b p most.toNat 23 = 0) := numK_ok hD hn
    have HV : Hid (numV b p = n) := (show numV b p = n by unfold numV; rw [hD])
    have HQ : Hid (numQ b p = p + m) := (show numQ b p = p + m by unfold numQ; rw [hD])
    clear hD
    go_wp2_with fail
    go_ret
    exact .inl ⟨HK.out, by rw [HV.out]; rfl, by rw [HQ.out]; exact hR, hg⟩
  · have HK : Hid (numK b p most.toNat 23 = 23) := numK_above hD hn
    clear hD
    unfold Gives at he
    subst he
    go_wp2_with fail
    exact ⟨rfl, .inr ⟨by rw [HK.out]; decide, by rw [HK.out]; rfl, hR, hg⟩⟩
  · have HK : Hid (numK b p most.toNat 23 = k) := numK_bad hD hk
    clear hD
    unfold Gives at he
    subst he
    go_wp2_with fail
    exact ⟨rfl, .inr ⟨by rw [HK.out]; exact hk, by rw [HK.out]; rfl, hR, hg⟩⟩

/- the deferred closures of face: a panic with an error's number becomes the reader's fault at the place where it began; else nothing -/
theorem assert_yes (W : World) (n : Int) : (Instr.typeAssert (.iface 25 (.int .i64 n)) 20 25 true).run Tryz.prog W = .ok (.tuple #[.int .i64 n, .bool true]) W := by kernel_rfl
theorem assert_nil (W : World) : (Instr.typeAssert .nilIface 20 25 true).run Tryz.prog W = .ok (.tuple #[.int .i64 0, .bool false]) W := by kernel_rfl

set_option maxHeartbeats 400000 in
theorem catchU {w : World} {B X Z : Nat} {b : ByteArray} {q f : Int} {p k : Int} (h : Rd w B b q f)
    (hZ : w.cell? ⟨Z, 0, none⟩ = some (.int .i64 p)) (hX : w.cell? ⟨X, 0, none⟩ = some (.pointer (some ⟨B, 0, none⟩))) (older : List PanicEntry) :
    CallsD Tryz.prog 79 #[.pointer (some ⟨Z, 0, none⟩), .pointer (some ⟨X, 0, none⟩)] (.panicking ({ v := .iface 25 (.int .i64 k), recovered := false } :: older)) w fun e u' w' =>
      e = .returned (.tuple #[]) ∧ u' = .panicking ({ v := .iface 25 (.int .i64 k), recovered := true } :: older) ∧ w' = (w.setCell ⟨B, 1, none⟩ (.int .i64 p)).setCell ⟨B, 2, none⟩ (.int .i64 k) := by
  have z1 := h.z 1
  have z2 := (h.set1 (q := p)).z 2
  have c1 := h.c1
  have c2 := (h.set1 (q := p)).c2
  refine callsD_of_wpS Tryz.func79 rfl fun c₀ cs hu => ?_
  apply wpS_seq
  apply wpS_region
  simp [wpOpsS, go_sem, recoverD, hu, Tryz.ntmps79, Exit.thenS, assert_yes]
  apply wpS_seq
  apply wpS_region
  simp [wpOpsS, go_sem, Exit.thenS]
  refine wpS_cond (t := true) (by simp [Act.eval, Array.replicate]) ?_
  simp only [if_true]
  refine wpS_of_wp ?_
  simp only [Array.replicate, List.replicate]
  go_wp2
  exact ⟨rfl, _, rfl, _, results_none rfl _ _ _, rfl, rfl, rfl⟩

set_option maxHeartbeats 400000 in
theorem idleU (w : World) (Z X : Nat) :
    CallsD Tryz.prog 79 #[.pointer (some ⟨Z, 0, none⟩), .pointer (some ⟨X, 0, none⟩)] .returning w fun e u' w' => e = .returned (.tuple #[]) ∧ u' = .returning ∧ w' = w := by
  refine callsD_of_wpS Tryz.func79 rfl fun c₀ cs hu => ?_
  apply wpS_seq
  apply wpS_region
  simp [wpOpsS, go_sem, recoverD, hu, Tryz.ntmps79, Exit.thenS, assert_nil]
  apply wpS_seq
  apply wpS_region
  simp [wpOpsS, go_sem, Exit.thenS]
  refine wpS_cond (t := false) (by simp [Act.eval, Array.replicate]) ?_
  simp only [Bool.false_eq_true, if_false]
  refine wpS_of_wp (wp_skip ?_)
  cases c₀
  simp_all [bodyPostS, results, Tryz.results79]

set_option maxHeartbeats 400000 in
theorem catchI {w : World} {B X Z : Nat} {b : ByteArray} {q f : Int} {p k : Int} (h : Rd w B b q f)
    (hZ : w.cell? ⟨Z, 0, none⟩ = some (.int .i64 p)) (hX : w.cell? ⟨X, 0, none⟩ = some (.pointer (some ⟨B, 0, none⟩))) (older : List PanicEntry) :
    CallsD Tryz.prog 81 #[.pointer (some ⟨Z, 0, none⟩), .pointer (some ⟨X, 0, none⟩)] (.panicking ({ v := .iface 25 (.int .i64 k), recovered := false } :: older)) w fun e u' w' =>
      e = .returned (.tuple #[]) ∧ u' = .panicking ({ v := .iface 25 (.int .i64 k), recovered := true } :: older) ∧ w' = (w.setCell ⟨B, 1, none⟩ (.int .i64 p)).setCell ⟨B, 2, none⟩ (.int .i64 k) := by
  have z1 := h.z 1
  have z2 := (h.set1 (q := p)).z 2
  have c1 := h.c1
  have c2 := (h.set1 (q := p)).c2
  refine callsD_of_wpS Tryz.func81 rfl fun c₀ cs hu => ?_
  apply wpS_seq
  apply wpS_region
  simp [wpOpsS, go_sem, recoverD, hu, Tryz.ntmps81, Exit.thenS, assert_yes]
  apply wpS_seq
  apply wpS_region
  simp [wpOpsS, go_sem, Exit.thenS]
  refine wpS_cond (t := true) (by simp [Act.eval, Array.replicate]) ?_
  simp only [if_true]
  refine wpS_of_wp ?_
  simp only [Array.replicate, List.replicate]
  go_wp2
  exact ⟨rfl, _, rfl, _, results_none rfl _ _ _, rfl, rfl, rfl⟩

set_option maxHeartbeats 400000 in
theorem idleI (w : World) (Z X : Nat) :
    CallsD Tryz.prog 81 #[.pointer (some ⟨Z, 0, none⟩), .pointer (some ⟨X, 0, none⟩)] .returning w fun e u' w' => e = .returned (.tuple #[]) ∧ u' = .returning ∧ w' = w := by
  refine callsD_of_wpS Tryz.func81 rfl fun c₀ cs hu => ?_
  apply wpS_seq
  apply wpS_region
  simp [wpOpsS, go_sem, recoverD, hu, Tryz.ntmps81, Exit.thenS, assert_nil]
  apply wpS_seq
  apply wpS_region
  simp [wpOpsS, go_sem, Exit.thenS]
  refine wpS_cond (t := false) (by simp [Act.eval, Array.replicate]) ?_
  simp only [Bool.false_eq_true, if_false]
  refine wpS_of_wp (wp_skip ?_)
  cases c₀
  simp_all [bodyPostS, results, Tryz.results81]

end Go.Proofs.YtjkkjijlblfgaaaGreatDoor
end

section
namespace Go.Proofs.YtjkkjijlblfgaaaGreatDoor
open Go.RowKit

/-- what a face comes to: what was read, and the reader behind it; or nothing, and the fault -/
structure FPost (w : World) (B : Nat) (b : ByteArray) (p : Int) (A Z : Value) (q k : Nat) (e : Ending) (w' : World) : Prop where
  ok : k = 0 → e = .returned A ∧ Rd w' B b (q : Int) 0
  no : k ≠ 0 → e = .returned Z ∧ Rd w' B b p (k : Int)
  grown : w.grownBy w' (some B)

theorem grown_trans {a b c : World} {r : Option Nat} (h : a.grownBy b r) (k : b.grownBy c r) : a.grownBy c r :=
  ⟨k.os.trans h.os, k.tape.trans h.tape, k.output.trans h.output, Nat.le_trans h.size k.size, fun i hi hn => (k.block i (Nat.lt_of_lt_of_le hi h.size) hn).trans (h.block i hi hn)⟩
theorem grown_set (w : World) (B k : Nat) (u : Value) : w.grownBy (w.setCell ⟨B, k, none⟩ u) (some B) :=
  ⟨rfl, rfl, rfl, by show _ ≤ (w.heap.modify B _).size; simp, fun i _ hi => Below.heap_setCell w ⟨B, k, none⟩ u i (fun e => hi (by rw [e]))⟩
theorem grown_below {w w' : World} (h : Below w.heap.size w w') (r : Option Nat) : w.grownBy w' r := ⟨h.os, h.tape, h.output, h.size, fun i hi _ => h.block i hi⟩
theorem below_alloc (w : World) (o : Obj) : Below w.heap.size w (w.alloc o) := (Below.refl _ _).alloc (Nat.le_refl _) o

/-- the world in which a face calls what reads: two boxes more -/
abbrev box2 (w : World) (B : Nat) (p : Int) : World := (w.alloc (.cells #[.pointer (some ⟨B, 0, none⟩)] 51)).alloc (.cells #[.int .i64 p] 3)
theorem box2_below (w : World) (B : Nat) (p : Int) : Below w.heap.size w (box2 w B p) := ((Below.refl _ _).alloc (Nat.le_refl _) _).alloc (by simp) _
theorem box2_X (w : World) (B : Nat) (p : Int) : (box2 w B p).cell? ⟨w.heap.size, 0, none⟩ = some (.pointer (some ⟨B, 0, none⟩)) := by
  rw [World.cell?_alloc_past _ _ _ (by simp), World.cell?_alloc_at _ _ _ _ rfl]; rfl
theorem box2_Z (w : World) (B : Nat) (p : Int) : (box2 w B p).cell? ⟨w.heap.size + 1, 0, none⟩ = some (.int .i64 p) := by
  rw [World.cell?_alloc_at _ _ _ _ (by simp)]; rfl
theorem box2_size (w : World) (B : Nat) (p : Int) : (box2 w B p).heap.size = w.heap.size + 2 := by simp

set_option maxHeartbeats 400000 in
theorem faceU {w : World} {B p : Nat} {b : ByteArray} (h : Rd w B b p 0) (C : FuncId) (caps : Array Value) (A : Value) (q k : Nat)
    (hrun : ∀ w1 : World, (callFunc C caps).run Tryz.prog w1 = .ok (.enter C caps) w1)
    (hc : ∀ w1, Below w.heap.size w w1 → Rd w1 B b p 0 → Calls Tryz.prog C caps w1 (RPost w1 B b A q k)) :
    Calls Tryz.prog 45 #[.pointer (some ⟨B, 0, none⟩), .func (.func C) #[] caps] w (FPost w B b p A (.int .u64 0) q k) := by
  have hmf : ∀ (fn : Fn) (first cap : Array Value) (w : World), (Instr.makeFunc fn first cap).run Tryz.prog w = .ok (.func fn first cap) w := fun _ _ _ _ => rfl
  have HC : Hid (∀ w1, Below w.heap.size w w1 → Rd w1 B b p 0 → Calls Tryz.prog C caps w1 (RPost w1 B b A q k)) := hc
  have hlt := h.lt
  have c1 := h.c1
  have c2 := h.c2
  have hne : ¬ B = w.heap.size := by omega
  clear hc
  go_enter_defers Tryz.func45, Tryz.ntmps45
  go_wp2_with fail
  refine (HC.out _ (box2_below w B p) ((h.alloc _).alloc _)).mono ?_
  rintro e w' (⟨rfl, rfl, hR, hg⟩ | ⟨hk, he, ⟨q', hR⟩, hg⟩)
  · go_wp2_with fail
    refine leaves_cons (f := 79) (args := #[.pointer (some ⟨w.heap.size + 1, 0, none⟩), .pointer (some ⟨w.heap.size, 0, none⟩)]) (by simp) (by simp [go_sem]) ?_
    refine (idleU _ _ _).mono ?_
    rintro e u' w'' ⟨rfl, rfl, rfl⟩
    exact ⟨_, results_tmp rfl _ _ _, fun _ => ⟨rfl, hR⟩, fun h => absurd rfl h, grown_trans (grown_below (box2_below w B p) _) hg⟩
  · unfold Gives at he
    subst he
    have cX := hg.cell (box2_X w B p) (by simp; omega)
    have cZ := hg.cell (box2_Z w B p) (by simp; omega)
    go_wp2_with fail
    refine leaves_cons (f := 79) (args := #[.pointer (some ⟨w.heap.size + 1, 0, none⟩), .pointer (some ⟨w.heap.size, 0, none⟩)]) (by simp) (by simp [go_sem]) ?_
    refine (catchU hR cZ cX []).mono ?_
    rintro e u' w'' ⟨rfl, rfl, rfl⟩
    exact ⟨_, results_tmp rfl _ _ _, fun h0 => absurd h0 hk, fun _ => ⟨rfl, (hR.set1).set2⟩, grown_trans (grown_trans (grown_below (box2_below w B p) _) hg) (grown_trans (grown_set _ _ _ _) (grown_set _ _ _ _))⟩

set_option maxHeartbeats 400000 in
theorem faceU_dead {w : World} {B : Nat} {b : ByteArray} {p f : Int} (h : Rd w B b p f) (hf : f ≠ 0) (C : FuncId) (caps : Array Value) :
    Calls Tryz.prog 45 #[.pointer (some ⟨B, 0, none⟩), .func (.func C) #[] caps] w fun e w' => e = .returned (.int .u64 0) ∧ Below w.heap.size w w' := by
  have hlt := h.lt
  have c2 := h.c2
  have hne : ¬ B = w.heap.size := by omega
  have b0 : (f != 0) = true := by rw [bne_iff_ne]; exact hf
  clear hf
  go_enter_defers Tryz.func45, Tryz.ntmps45
  go_wp2_with fail
  exact ⟨_, results_tmp rfl _ _ _, rfl, below_alloc _ _⟩

set_option maxHeartbeats 400000 in
theorem faceI {w : World} {B p : Nat} {b : ByteArray} (h : Rd w B b p 0) (C : FuncId) (caps : Array Value) (A : Value) (q k : Nat)
    (hrun : ∀ w1 : World, (callFunc C caps).run Tryz.prog w1 = .ok (.enter C caps) w1)
    (hc : ∀ w1, Below w.heap.size w w1 → Rd w1 B b p 0 → Calls Tryz.prog C caps w1 (RPost w1 B b A q k)) :
    Calls Tryz.prog 48 #[.pointer (some ⟨B, 0, none⟩), .func (.func C) #[] caps] w (FPost w B b p A (.int .i64 0) q k) := by
  have hmf : ∀ (fn : Fn) (first cap : Array Value) (w : World), (Instr.makeFunc fn first cap).run Tryz.prog w = .ok (.func fn first cap) w := fun _ _ _ _ => rfl
  have HC : Hid (∀ w1, Below w.heap.size w w1 → Rd w1 B b p 0 → Calls Tryz.prog C caps w1 (RPost w1 B b A q k)) := hc
  have hlt := h.lt
  have c1 := h.c1
  have c2 := h.c2
  have hne : ¬ B = w.heap.size := by omega
  clear hc
  go_enter_defers Tryz.func48, Tryz.ntmps48
  go_wp2_with fail
  refine (HC.out _ (box2_below w B p) ((h.alloc _).alloc _)).mono ?_
  rintro e w' (⟨rfl, rfl, hR, hg⟩ | ⟨hk, he, ⟨q', hR⟩, hg⟩)
  · go_wp2_with fail
    refine leaves_cons (f := 81) (args := #[.pointer (some ⟨w.heap.size + 1, 0, none⟩), .pointer (some ⟨w.heap.size, 0, none⟩)]) (by simp) (by simp [go_sem]) ?_
    refine (idleI _ _ _).mono ?_
    rintro e u' w'' ⟨rfl, rfl, rfl⟩
    exact ⟨_, results_tmp rfl _ _ _, fun _ => ⟨rfl, hR⟩, fun h => absurd rfl h, grown_trans (grown_below (box2_below w B p) _) hg⟩
  · unfold Gives at he
    subst he
    have cX := hg.cell (box2_X w B p) (by simp; omega)
    have cZ := hg.cell (box2_Z w B p) (by simp; omega)
    go_wp2_with fail
    refine leaves_cons (f := 81) (args := #[.pointer (some ⟨w.heap.size + 1, 0, none⟩), .pointer (some ⟨w.heap.size, 0, none⟩)]) (by simp) (by simp [go_sem]) ?_
    refine (catchI hR cZ cX []).mono ?_
    rintro e u' w'' ⟨rfl, rfl, rfl⟩
    exact ⟨_, results_tmp rfl _ _ _, fun h0 => absurd h0 hk, fun _ => ⟨rfl, (hR.set1).set2⟩, grown_trans (grown_trans (grown_below (box2_below w B p) _) hg) (grown_trans (grown_set _ _ _ _) (grown_set _ _ _ _))⟩

set_option maxHeartbeats 400000 in
theorem faceI_dead {w : World} {B : Nat} {b : ByteArray} {p f : Int} (h : Rd w B b p f) (hf : f ≠ 0) (C : FuncId) (caps : Array Value) :
    Calls Tryz.prog 48 #[.pointer (some ⟨B, 0, none⟩), .func (.func C) #[] caps] w fun e w' => e = .returned (.int .i64 0) ∧ Below w.heap.size w w' := by
  have hlt := h.lt
  have c2 := h.c2
  have hne : ¬ B = w.heap.size := by omega
  have b0 : (f != 0) = true := by rw [bne_iff_ne]; exact hf
  clear hf
  go_enter_defers Tryz.func48, Tryz.ntmps48
  go_wp2_with fail
  exact ⟨_, results_tmp rfl _ _ _, rfl, below_alloc _ _⟩

end Go.Proofs.YtjkkjijlblfgaaaGreatDoor
end
