import Derived.Test.YtjalmmdihkcboaaMgAE
import Derived.Deep.Cut
import Derived.Laws.BitsAllLaws
import Derived.Test.YtjalmmdihkcboaaMgAA
import Derived.Defers
import Derived.Recover

section
namespace Go.Proofs.Ytjalmmdihkcboaa
open Go.RowKit

/-- what End tells -/
def endE (b : ByteArray) (p f : Int) : Int := if f = 0 ∧ p < (b.size : Int) then 24 else f
def endP (b : ByteArray) (p f : Int) : Int := if f = 0 ∧ ¬ p < (b.size : Int) then 0 else p

/-- a panic with an error's number -/
def Gives (e : Ending) (k : Int) : Prop := e = .panicked [{ v := .iface 24 (.int .i64 k), recovered := false }]

theorem gSet (w : World) (B k n m : Nat) {u : Value} : w.grownBy (((w.drewN n).setCell ⟨B, k, none⟩ u).drewN m) (some B) :=
  ⟨rfl, rfl, rfl, by show _ ≤ (w.heap.modify B _).size; simp, fun i _ hi => Below.heap_setCell w ⟨B, k, none⟩ u i (fun e => hi (by rw [e]))⟩
end Go.Proofs.Ytjalmmdihkcboaa
end

section
namespace Go.Proofs.Ytjalmmdihkcboaa
open Go.RowKit

theorem wrapU (x : Nat) : IntKind.u64.wrap (x : Int) = ((x % 18446744073709551616 : Nat) : Int) := by rw [IntKind.wrap_u64]; omega
theorem p7 (k : Nat) : (128 : Nat) ^ k = 2 ^ (7 * k) := by rw [show (128 : Nat) = 2 ^ 7 by decide, ← Nat.pow_mul]

theorem gacc (acc c k : Nat) (hk : k < 10) (ha : acc < 128 ^ k) : ∃ acc' : Nat, bits .or .u64 (acc : Int) (IntKind.u64.wrap ((c : Int) % 128 * 2 ^ (7 * k))) = (acc' : Int) ∧ acc' < 18446744073709551616 ∧
    ((k ≤ 8 ∨ c % 128 ≤ 1) → acc' = acc + (c % 128) * 128 ^ k ∧ (k ≤ 8 → acc' < 128 ^ (k + 1))) := by
  have e1 : (c : Int) % 128 * 2 ^ (7 * k) = ((c % 128 * 2 ^ (7 * k) : Nat) : Int) := by simp
  have hp9 : 128 ^ k ≤ 9223372036854775808 := by
    have : (128 : Nat) ^ k ≤ 128 ^ 9 := Nat.pow_le_pow_right (by decide) (by omega)
    rw [Pk.p9] at this; exact this
  have hm := Nat.mod_lt (c % 128 * 2 ^ (7 * k)) (show 0 < 18446744073709551616 by decide)
  rw [e1, wrapU, u64_or_nat _ _ (by omega) hm]
  refine ⟨_, rfl, ?_, ?_⟩
  · have : (acc ||| c % 128 * 2 ^ (7 * k) % 18446744073709551616) < 2 ^ 64 := Nat.or_lt_two_pow (by omega) (by omega)
    omega
  · intro h
    have hX : c % 128 * 2 ^ (7 * k) < 18446744073709551616 := by
      rw [← p7]
      rcases h with h | h
      · have : (128 : Nat) ^ k ≤ 128 ^ 8 := Nat.pow_le_pow_right (by decide) h
        have e : (128 : Nat) ^ 8 = 72057594037927936 := by decide
        have : c % 128 * 128 ^ k ≤ 127 * 72057594037927936 := Nat.mul_le_mul (by omega) (by omega)
        omega
      · have : c % 128 * 128 ^ k ≤ 1 * 9223372036854775808 := Nat.mul_le_mul h hp9
        omega
    rw [Nat.mod_eq_of_lt hX, Nat.or_comm, nat_join (7 * k) _ _ (Nat.mul_mod_left _ _) (by rw [← p7]; exact ha), p7]
    refine ⟨by omega, fun _ => ?_⟩
    rw [← p7, Nat.pow_succ]
    have : c % 128 * 128 ^ k ≤ 127 * 128 ^ k := Nat.mul_le_mul_right _ (by omega)
    omega

/-- the bytes from a place on -/
def rest (b : ByteArray) (p : Nat) : List UInt8 := b.data.toList.drop p
theorem rest_len (b : ByteArray) (p : Nat) : (rest b p).length = b.size - p := by
  unfold rest; rw [List.length_drop]; rfl
theorem rest_at (b : ByteArray) (p k : Nat) (h : p + k < b.size) : (rest b p).drop k = b[p + k] :: (rest b p).drop (k + 1) := by
  unfold rest
  rw [List.drop_drop, List.drop_drop]
  exact List.drop_eq_getElem_cons (by simpa using h)

structure GRel (D : Nat × Nat × Nat) (l : List UInt8) (k acc : Nat) : Prop where
  lt : acc < 18446744073709551616
  low : k < 10 → acc < 128 ^ k ∧ D = Pk.dec k acc (l.drop k)
  ten : k = 10 → D = (22, 0, 0)

theorem GRel.next {D : Nat × Nat × Nat} {b : ByteArray} {p k acc : Nat} {c : UInt8} (h : GRel D (rest b p) k acc) (hk : k < 10) (hs : p + k < b.size) (hc : b[((p : Int) + (k : Int)).toNat]'(by omega) = c) (h1 : 128 ≤ c.toNat) :
    ∃ acc' : Nat, bits .or .u64 (acc : Int) (IntKind.u64.wrap ((c.toNat : Int) % 128 * 2 ^ (7 * k))) = (acc' : Int) ∧ GRel D (rest b p) (k + 1) acc' := by
  obtain ⟨ha, hD⟩ := h.low hk
  obtain ⟨acc', e, hlt, hacc⟩ := gacc acc c.toNat k hk ha
  refine ⟨acc', e, hlt, ?_, ?_⟩
  · intro h9
    obtain ⟨e1, e2⟩ := hacc (.inl (by omega))
    refine ⟨e2 (by omega), ?_⟩
    rw [rest_at b p k hs] at hD
    have hc' : b[p + k] = c := hc
    rw [hc'] at hD
    simp only [Pk.dec, if_pos hk, if_pos h1] at hD
    rw [hD, e1]
  · intro h9
    rw [rest_at b p k hs] at hD
    have hc' : b[p + k] = c := hc
    rw [hc'] at hD
    simp only [Pk.dec, if_pos hk, if_pos h1] at hD
    rw [hD, h9]
    cases (List.drop 10 (rest b p)) <;> rfl
theorem GRel.bad {D : Nat × Nat × Nat} {b : ByteArray} {p k acc : Nat} {c : UInt8} (h : GRel D (rest b p) k acc) (hk : k < 10) (hs : p + k < b.size) (hc : b[((p : Int) + (k : Int)).toNat]'(by omega) = c) (h1 : c.toNat < 128)
    (h2 : (0 < k ∧ c.toNat = 0) ∨ (k = 9 ∧ 1 < c.toNat)) : D = (22, 0, 0) := by
  obtain ⟨ha, hD⟩ := h.low hk
  rw [rest_at b p k hs] at hD
  have hc' : b[p + k] = c := hc
  rw [hc'] at hD
  simp only [Pk.dec, if_pos hk, if_neg (show ¬ 128 ≤ c.toNat by omega), if_pos h2] at hD
  exact hD
theorem GRel.good {D : Nat × Nat × Nat} {b : ByteArray} {p k acc : Nat} {c : UInt8} (h : GRel D (rest b p) k acc) (hk : k < 10) (hs : p + k < b.size) (hc : b[((p : Int) + (k : Int)).toNat]'(by omega) = c) (h1 : c.toNat < 128)
    (h2 : ¬ ((0 < k ∧ c.toNat = 0) ∨ (k = 9 ∧ 1 < c.toNat))) : ∃ acc' : Nat, bits .or .u64 (acc : Int) (IntKind.u64.wrap ((c.toNat : Int) % 128 * 2 ^ (7 * k))) = (acc' : Int) ∧ D = (0, acc', k + 1) := by
  obtain ⟨ha, hD⟩ := h.low hk
  obtain ⟨acc', e, hlt, hacc⟩ := gacc acc c.toNat k hk ha
  refine ⟨acc', e, ?_⟩
  rw [rest_at b p k hs] at hD
  have hc' : b[p + k] = c := hc
  rw [hc'] at hD
  simp only [Pk.dec, if_pos hk, if_neg (show ¬ 128 ≤ c.toNat by omega), if_neg h2] at hD
  have hm : c.toNat % 128 = c.toNat := Nat.mod_eq_of_lt h1
  rw [hm] at hacc
  rw [hD, (hacc (by omega)).1]
theorem GRel.done {D : Nat × Nat × Nat} {b : ByteArray} {p k acc : Nat} (h : GRel D (rest b p) k acc) (hk : k < 10) (hs : b.size ≤ p + k) : D = (20, 0, 0) := by
  obtain ⟨ha, hD⟩ := h.low hk
  have e : (rest b p).drop k = [] := by apply List.drop_eq_nil_of_le; rw [rest_len]; omega
  rw [e] at hD
  simp only [Pk.dec, if_pos hk] at hD
  exact hD
theorem gSet1 (w : World) (B k n : Nat) {u : Value} : w.grownBy ((w.drewN n).setCell ⟨B, k, none⟩ u) (some B) :=
  ⟨rfl, rfl, rfl, by show _ ≤ (w.heap.modify B _).size; simp, fun i _ hi => Below.heap_setCell w ⟨B, k, none⟩ u i (fun e => hi (by rw [e]))⟩
end Go.Proofs.Ytjalmmdihkcboaa
end

section
namespace Go.Proofs.Ytjalmmdihkcboaa
open Go.RowKit

end Go.Proofs.Ytjalmmdihkcboaa
end

section
namespace Go.Proofs.Ytjalmmdihkcboaa
open Go.RowKit

theorem grown_drew (w : World) (n : Nat) (r : Option Nat) : w.grownBy (w.drewN n) r := ⟨rfl, rfl, rfl, Nat.le_refl _, fun _ _ _ => rfl⟩

end Go.Proofs.Ytjalmmdihkcboaa
end

section
namespace Go.Proofs.Ytjalmmdihkcboaa
open Go.RowKit

/-- Num's outcome: the error's number (0: none), the number, the place -/
def numK (b : ByteArray) (p most : Nat) (above : Nat) : Nat := if (Pk.dec 0 0 (rest b p)).1 ≠ 0 then (Pk.dec 0 0 (rest b p)).1 else if most < (Pk.dec 0 0 (rest b p)).2.1 then above else 0
def numV (b : ByteArray) (p : Nat) : Nat := (Pk.dec 0 0 (rest b p)).2.1
def numQ (b : ByteArray) (p : Nat) : Nat := p + (Pk.dec 0 0 (rest b p)).2.2
theorem numK_ok {b : ByteArray} {p most above n m : Nat} (h : Pk.dec 0 0 (rest b p) = (0, n, m)) (hn : n ≤ most) : numK b p most above = 0 := by
  unfold numK; rw [h]; simp; omega
theorem numK_above {b : ByteArray} {p most above n m : Nat} (h : Pk.dec 0 0 (rest b p) = (0, n, m)) (hn : most < n) : numK b p most above = above := by
  unfold numK; rw [h]; simp; omega
theorem numK_bad {b : ByteArray} {p most above k : Nat} (h : Pk.dec 0 0 (rest b p) = (k, 0, 0)) (hk : k ≠ 0) : numK b p most above = k := by
  unfold numK; rw [h]; simp [hk]

end Go.Proofs.Ytjalmmdihkcboaa
end

section
namespace Go.Proofs.Ytjalmmdihkcboaa
open Go.RowKit

theorem assert_yes (W : World) (n : Int) : (Instr.typeAssert (.iface 24 (.int .i64 n)) 20 24 true).run Try.prog W = .ok (.tuple #[.int .i64 n, .bool true]) W := by kernel_rfl
theorem assert_nil (W : World) : (Instr.typeAssert .nilIface 20 24 true).run Try.prog W = .ok (.tuple #[.int .i64 0, .bool false]) W := by kernel_rfl

end Go.Proofs.Ytjalmmdihkcboaa
end

section
namespace Go.Proofs.Ytjalmmdihkcboaa
open Go.RowKit

theorem grown_trans {a b c : World} {r : Option Nat} (h : a.grownBy b r) (k : b.grownBy c r) : a.grownBy c r :=
  ⟨k.os.trans h.os, k.tape.trans h.tape, k.output.trans h.output, Nat.le_trans h.size k.size, fun i hi hn => (k.block i (Nat.lt_of_lt_of_le hi h.size) hn).trans (h.block i hi hn)⟩
theorem grown_set (w : World) (B k : Nat) (u : Value) : w.grownBy (w.setCell ⟨B, k, none⟩ u) (some B) :=
  ⟨rfl, rfl, rfl, by show _ ≤ (w.heap.modify B _).size; simp, fun i _ hi => Below.heap_setCell w ⟨B, k, none⟩ u i (fun e => hi (by rw [e]))⟩
theorem grown_below {w w' : World} (h : Below w.heap.size w w') (r : Option Nat) : w.grownBy w' r := ⟨h.os, h.tape, h.output, h.size, fun i hi _ => h.block i hi⟩
theorem below_alloc (w : World) (o : Obj) : Below w.heap.size w (w.alloc o) := (Below.refl _ _).alloc (Nat.le_refl _) o

end Go.Proofs.Ytjalmmdihkcboaa
end
