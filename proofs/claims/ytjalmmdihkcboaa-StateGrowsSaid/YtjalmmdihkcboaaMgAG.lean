import Derived.Test.YtjalmmdihkcboaaMgAF
import Derived.Lib.ConvBytes

section
namespace Go.Proofs.Ytjalmmdihkcboaa
open Go.RowKit

namespace Pk
/-- the number of some bytes, the greatest first -/
def fold8 (l : List UInt8) : Nat := l.foldl (fun a c => a * 256 + c.toNat) 0
theorem fold8_snoc (l : List UInt8) (c : UInt8) : fold8 (l ++ [c]) = fold8 l * 256 + c.toNat := by unfold fold8; simp
theorem fold8_take (l : List UInt8) (k : Nat) (h : k < l.length) : fold8 (l.take (k + 1)) = fold8 (l.take k) * 256 + (l.getD k 0).toNat := by
  rw [List.take_add_one, List.getElem?_eq_getElem h, Option.toList_some, fold8_snoc]
  simp [List.getD, h]
theorem fold8_lt (l : List UInt8) : ∀ k, k ≤ l.length → fold8 (l.take k) < 256 ^ k := by
  intro k
  induction k with
  | zero => intro _; simp [fold8]
  | succ k ih =>
    intro h
    rw [fold8_take l k (by omega), Nat.pow_succ]
    have h1 := ih (by omega)
    have h2 : (l.getD k 0).toNat < 256 := UInt8.toNat_lt _
    omega
theorem fold8_small (l : List UInt8) (k : Nat) (h : k ≤ l.length) (hk : k < 8) : fold8 (l.take k) < 72057594037927936 := by
  have h1 := fold8_lt l k h
  have h2 : (256 : Nat) ^ k ≤ 256 ^ 7 := Nat.pow_le_pow_right (by decide) (by omega)
  have e : (256 : Nat) ^ 7 = 72057594037927936 := by decide
  omega
end Pk
theorem or8 (acc c : Nat) (h : acc < 72057594037927936) (hc : c < 256) : bits .or .u64 (IntKind.u64.wrap ((acc : Int) * 256)) (c : Int) = ((acc * 256 + c : Nat) : Int) := by
  rw [show (acc : Int) * 256 = ((acc * 256 : Nat) : Int) by simp, wrapU, Nat.mod_eq_of_lt (by omega), u64_or_nat _ _ (by omega) (by omega), nat_join 8 _ _ (by omega) (by omega)]

theorem bytes_below (w : World) (e : TypeId) (s : ByteArray) : Below w.heap.size w (Lib.bytesWorld w e s) :=
  ⟨rfl, rfl, rfl, by rw [Lib.bytesWorld_size]; omega, fun k hk => Lib.bytesWorld_at_old w e s k hk⟩
def bitsV (b : ByteArray) (p : Nat) : Nat := Pk.fold8 ((rest b p).take 8)
def bitsK (b : ByteArray) (p : Nat) : Nat := if b.size < p + 8 then 20 else 0
theorem extract_list (b : ByteArray) (p n : Nat) : (b.extract p (p + n)).data.toList = (rest b p).take n := by
  unfold rest
  rw [ByteArray.data_extract, Array.toList_extract, List.extract_eq_take_drop]
  congr 1; omega
theorem extract_size (b : ByteArray) (p n : Nat) (h : p + n ≤ b.size) : (b.extract p (p + n)).size = n := by
  rw [ByteArray.size_extract]; omega

end Go.Proofs.Ytjalmmdihkcboaa
end
