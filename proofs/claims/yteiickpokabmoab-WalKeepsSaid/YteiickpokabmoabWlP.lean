import Derived.Test.YteiickpokabmoabWlO
import Derived.Test.YteiickpokabmoabWlOp
namespace Go.Proofs.Yteiickpokabmoab
open Go.RowKit Go.Shelf
open Wl (Hd WS Log)

theorem bc_rep (n : Nat) : bc (List.replicate n 0) = List.replicate n (.int .u8 0) := by unfold bc; rw [List.map_replicate]; rfl
theorem splice_first (m : Nat) (a : List UInt8) : splice (bc (List.replicate m 0)) 0 (bc a) = bc (a ++ List.replicate (m - a.length) 0) := by
  unfold splice
  rw [bc_append, bc_rep, bc_rep, List.take_zero, List.nil_append, List.drop_replicate, bc_len, Nat.zero_add]
theorem splice_second (m : Nat) (a f : List UInt8) (h : a.length + f.length ≤ m) : splice (bc (a ++ List.replicate (m - a.length) 0)) a.length (bc f) = bc ((a ++ f) ++ List.replicate (m - (a ++ f).length) 0) := by
  unfold splice
  rw [bc_append, bc_append, bc_append, List.take_append_of_le_length (by rw [bc_len]; omega), List.take_of_length_le (by rw [bc_len]; omega), List.drop_append, List.drop_eq_nil_of_le (by rw [bc_len, bc_len]; omega), List.nil_append, bc_len, bc_len, bc_rep, bc_rep, List.drop_replicate, List.append_assoc]
  congr 2
  rw [List.length_append]; congr 1; omega
theorem pad_eq (l : List UInt8) : l ++ List.replicate (Wl.up l.length * 128 - l.length) 0 = Wl.pad l := rfl
theorem pad_len (l : List UInt8) : (Wl.pad l).length = Wl.up l.length * 128 := by
  unfold Wl.pad
  have : l.length ≤ Wl.up l.length * 128 := by unfold Wl.up; omega
  simp; omega
theorem sects_eq (l : List UInt8) : secs (Wl.pad l) (Wl.up l.length) = Wl.sects l := rfl
def FW (F : Nat → Prop) (W : Nat) (k : Nat) : Prop := F k ∨ k = W
theorem Wm.below {w w' : World} {W b : Nat} {ws : WS} (h : Wm w W b ws) (hb : Below w.heap.size w w') : Wm w' W b ws := box_bl h hb
theorem frame_len (r : ByteArray) : (Wl.frame r).length = (Pk.enc r.size).length + r.size := by unfold Wl.frame; rw [List.length_append, ← D.size_list]
theorem wm_set3 {w : World} {W b num half sn lg rc : Nat} {gone : Bool} (h : Wm w W b ⟨⟨num, half, sn, lg⟩, rc, gone⟩) (n l r : Nat) :
    Wm (((w.setCell ⟨W, 1, none⟩ (.int .u64 (n : Int))).setCell ⟨W, 4, none⟩ (.int .i64 (l : Int))).setCell ⟨W, 5, none⟩ (.int .i64 (r : Int))) W b ⟨⟨n, half, sn, l⟩, r, gone⟩ := by
  unfold Wm
  rw [setCell_self (setCell_self (setCell_self h _) _) _]
  rfl
theorem far3 {w : World} {W k : Nat} (h : k ≠ W) (a b c : Value) : (((w.setCell ⟨W, 1, none⟩ a).setCell ⟨W, 4, none⟩ b).setCell ⟨W, 5, none⟩ c).heap[k]? = w.heap[k]? := by
  iterate 3 rw [Below.heap_setCell _ _ _ _ h]
theorem size3 (w : World) (W : Nat) (a b c : Value) : (((w.setCell ⟨W, 1, none⟩ a).setCell ⟨W, 4, none⟩ b).setCell ⟨W, 5, none⟩ c).heap.size = w.heap.size := by
  iterate 3 rw [D.setCell_size]
end Go.Proofs.Yteiickpokabmoab
