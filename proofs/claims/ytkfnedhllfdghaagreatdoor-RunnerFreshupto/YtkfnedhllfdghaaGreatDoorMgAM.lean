import Derived.Test.YtkfnedhllfdghaaGreatDoorMgAL
import Derived.Lib.ConvBytes

section
namespace Go.Proofs.YtkfnedhllfdghaaGreatDoor
set_option maxRecDepth 20000
open Go.RowKit

namespace Pk
/-- the number of some bytes, the greatest first -/
def fold8 (l : List UInt8) : Nat := l.foldl (fun a c => a * 256 + c.toNat) 0
theorem fold8_snoc (l : List UInt8) (c : UInt8) : fold8 (l ++ [c]) = fold8 l * 256 + c.toNat := by unfold fold8; simp
theorem fold8_take (l : List UInt8) (k : Nat) (h : k < l.length) : fold8 (l.take (k + 1)) = fold8 (l.take k) * 256 + (l.getD k 0).toNat := by
  rw [List.take_add_one, List.getElem?_eq_getElem h, Option.toList_some, fold8_snoc]
  simp [List.getD, h]
theorem fold8_lt (l : List UInt8) : ∀ k, k ≤ l.length → fold8 (l.take k) < 256 ^ k := by
  intro k
  induction k with
  | zero => intro _; simp [fold8]
  | succ k ih =>
    intro h
    rw [fold8_take l k (by omega), Nat.pow_succ]
    have h1 := ih (by omega)
    have h2 : (l.getD k 0).toNat < 256 := UInt8.toNat_lt _
    omega
theorem fold8_small (l : List UInt8) (k : Nat) (h : k ≤ l.length) (hk : k < 8) : fold8 (l.take k) < 72057594037927936 := by
  have h1 := fold8_lt l k h
  have h2 : (256 : Nat) ^ k ≤ 256 ^ 7 := Nat.pow_le_pow_right (by decide) (by omega)
  have e : (256 : Nat) ^ 7 = 72057594037927936 := by decide
  omega
end Pk
theorem or8 (acc c : Nat) (h : acc < 72057594037927936) (hc : c < 256) : bits .or .u64 (IntKind.u64.wrap ((acc : Int) * 256)) (c : Int) = ((acc * 256 + c : Nat) : Int) := by
  rw [show (acc : Int) * 256 = ((acc * 256 : Nat) : Int) by simp, wrapU, Nat.mod_eq_of_lt (by omega), u64_or_nat _ _ (by omega) (by omega), nat_join 8 _ _ (by omega) (by omega)]

theorem bytes_below (w : World) (e : TypeId) (s : ByteArray) : Below w.heap.size w (Lib.bytesWorld w e s) :=
  ⟨rfl, rfl, rfl, by rw [Lib.bytesWorld_size]; omega, fun k hk => Lib.bytesWorld_at_old w e s k hk⟩
def bitsV (b : ByteArray) (p : Nat) : Nat := Pk.fold8 ((rest b p).take 8)
def bitsK (b : ByteArray) (p : Nat) : Nat := if b.size < p + 8 then 20 else 0
theorem extract_list (b : ByteArray) (p n : Nat) : (b.extract p (p + n)).data.toList = (rest b p).take n := by
  unfold rest
  rw [ByteArray.data_extract, Array.toList_extract, List.extract_eq_take_drop]
  congr 1; omega
theorem extract_size (b : ByteArray) (p n : Nat) (h : p + n ≤ b.size) : (b.extract p (p + n)).size = n := by
  rw [ByteArray.size_extract]; omega

set_option maxHeartbeats 400000 in
theorem bits1_any {w : World} {B X p : Nat} {b : ByteArray} (h : Rd w B b p 0) (hp : p ≤ b.size) (hb : b.size ≤ 140737488351232)
    (hX : w.cell? ⟨X, 0, none⟩ = some (.pointer (some ⟨B, 0, none⟩))) :
    Calls Tryz.prog 251 #[.pointer (some ⟨X, 0, none⟩)] w (RPost w B b (.int .u64 (bitsV b p : Int)) (p + 8) (bitsK b p)) := by
  have hcv : ∀ (s : ByteArray) (W : World), (convert 9 212 (.string s)).run Tryz.prog W = .ok (.slice (some ⟨W.heap.size, 0, none⟩) s.size (grownCap W s.size 0 5)) (Lib.bytesWorld W 5 s) :=
    fun s W => Lib.run_convert_string_bytes W _ _ _ s Tryz.underlying9 Tryz.underlying212 Tryz.underlying5
  by_cases hs : p + 8 ≤ b.size
  · have HK : Hid (bitsK b p = 0) := if_neg (by omega)
    go_enter Tryz.func251, Tryz.ntmps251
    go_wp2_with fail
    refine (take_any (m := 8) h (by omega) (by omega) hb (by omega) (by omega)).mono ?_
    rintro e w1 ⟨rfl, hR, hg⟩
    have hz : b.extract ((p : Int)).toNat ((p : Int) + 8).toNat = b.extract p (p + 8) := by congr 1
    rw [hz]
    generalize hsx : b.extract p (p + 8) = s
    have hsz : s.size = 8 := by rw [← hsx]; exact extract_size b p 8 hs
    have hl : s.data.toList = (rest b p).take 8 := by rw [← hsx]; exact extract_list b p 8
    clear hsx hz
    have hcell : ∀ j, j < 8 → (Lib.bytesWorld w1 5 s).cell? ⟨w1.heap.size, j, none⟩ = some (.int .u8 ((s.data.toList.getD j 0).toNat : Int)) := fun j hj => Lib.bytesWorld_cell w1 _ s j (by omega)
    have hbel := bytes_below w1 5 s
    have hR2 : Hid (Rd (Lib.bytesWorld w1 5 s) B b ((p : Int) + 8) 0) := hR.below hbel hR.lt
    have hg2 : Hid (w.grownBy (Lib.bytesWorld w1 5 s) (some B)) := grown_trans hg (grown_below hbel _)
    have HL : Hid (s.data.toList = (rest b p).take 8) := hl
    have hlen : s.data.toList.length = 8 := by rw [← hsz]; rfl
    clear hl hbel hR hg
    go_wp2_with fail
    go_loop [2, 9] (fun v i => ∃ k : Nat, k ≤ 8 ∧ i = .int .i64 (k : Int) ∧ v = .int .u64 (Pk.fold8 (s.data.toList.take k) : Int)) (fun _ i => 8 - (intOf i).toNat)
    case atStart => exact ⟨0, by omega, rfl, rfl⟩
    case round =>
      obtain ⟨k, hk, rfl, rfl⟩ := hrel
      by_cases hk8 : k < 8
      · obtain ⟨c, hcc⟩ : ∃ c : UInt8, s.data.toList.getD k 0 = c := ⟨_, rfl⟩
        have hck : (Lib.bytesWorld w1 5 s).cell? ⟨w1.heap.size, k, none⟩ = some (.int .u8 (c.toNat : Int)) := by rw [← hcc]; exact hcell k hk8
        have HE : Hid (bits .or .u64 (IntKind.u64.wrap ((Pk.fold8 (s.data.toList.take k) : Int) * 256)) (c.toNat : Int) = (Pk.fold8 (s.data.toList.take (k + 1)) : Int)) := by
          rw [Pk.fold8_take _ k (by omega), hcc]
          exact or8 _ _ (Pk.fold8_small _ k (by omega) hk8) (UInt8.toNat_lt _)
        have hcb : c.toNat < 256 := UInt8.toNat_lt c
        clear hcell hcc
        go_wp2_with fail
        exact ⟨⟨k + 1, by omega, by go_num, by rw [← HE.out]⟩, by simp [intOf]; omega⟩
      · have hk' : k = 8 := by omega
        subst hk'
        have HV : Hid (bitsV b p = Pk.fold8 (List.take 8 s.data.toList)) := (show bitsV b p = _ by unfold bitsV; rw [HL.out, List.take_take]; rfl)
        clear hcell
        go_wp2_with fail
        go_ret
        exact .inl ⟨HK.out, by rw [HV.out]; rfl, by have := hR2.out; rw [show ((p + 8 : Nat) : Int) = (p : Int) + 8 by omega]; exact this, hg2.out⟩
  · have HK : Hid (bitsK b p = 20) := if_pos (by omega)
    go_enter Tryz.func251, Tryz.ntmps251
    go_wp2_with fail
    refine (take_short (m := 8) h (by omega) (by omega) hb (by omega)).mono ?_
    rintro e w1 ⟨he, n, rfl⟩
    unfold Gives at he
    subst he
    go_wp2_with fail
    exact ⟨rfl, .inr ⟨by rw [HK.out]; decide, by rw [HK.out]; rfl, ⟨_, h.drew n⟩, grown_drew _ _ _⟩⟩
end Go.Proofs.YtkfnedhllfdghaaGreatDoor
end
