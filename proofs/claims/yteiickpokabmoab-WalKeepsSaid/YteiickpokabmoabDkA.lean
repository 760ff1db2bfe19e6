import Derived.Test.YteiickpokabmoabRows
import Derived.WalkKit
import Derived.WalkSpells
import Derived.WalkLawsBesides
import Derived.BigQuiet
import Derived.Deep.Cut
import Derived.Deep.AppendLies
import Derived.Deep.RegionLaw
import Derived.Deep.RegionHeld3
import Derived.Laws.StructEq
import Derived.Laws.CopyOwn
import Derived.Laws.IdiomCopy
import Derived.Laws.MakeOwn
import Derived.Laws.OwnMore
import Derived.Laws.BytesString
import Derived.Laws.IdiomStrings
import Derived.Lib.SliceRun
import Derived.Laws.ResultCell
namespace Go.Proofs.Yteiickpokabmoab.D
open Go.RowKit

theorem hide {p : Prop} (h : p) : Hid p := h
/-- cells of a text's bytes -/
def sc (s : ByteArray) : List Value := s.data.toList.map fun c => Value.int .u8 (c.toNat : Int)
theorem sc_len (s : ByteArray) : (sc s).length = s.size := by rw [sc, List.length_map, Array.length_toList]; rfl
/-- cells of sectors -/
def scs : List ByteArray → List Value
  | [] => []
  | s :: l => sc s ++ scs l
/-- each has 128 bytes -/
def A128 (S : List ByteArray) : Prop := ∀ s ∈ S, s.size = 128
theorem A128.tail {s : ByteArray} {S : List ByteArray} (h : A128 (s :: S)) : A128 S := fun x hx => h x (List.mem_cons_of_mem _ hx)
theorem A128.head {s : ByteArray} {S : List ByteArray} (h : A128 (s :: S)) : s.size = 128 := h s (List.mem_cons_self ..)
theorem A128.get {S : List ByteArray} (h : A128 S) {i : Nat} (hi : i < S.length) : (S[i]).size = 128 := h _ (List.getElem_mem hi)
theorem scs_len {S : List ByteArray} (h : A128 S) : (scs S).length = S.length * 128 := by
  induction S with
  | nil => rfl
  | cons s l ih => simp only [scs, List.length_append, ih h.tail, List.length_cons, sc_len, h.head]; omega
theorem scs_drop {S : List ByteArray} (h : A128 S) (k : Nat) : (scs S).drop (k * 128) = scs (S.drop k) := by
  induction S generalizing k with
  | nil => simp [scs]
  | cons s l ih =>
    cases k with
    | zero => simp
    | succ k =>
      have h6 : (sc s).length = 128 := by rw [sc_len, h.head]
      simp only [List.drop_succ_cons, scs, List.drop_append, h6, ← ih h.tail]
      rw [List.drop_of_length_le (by rw [h6]; omega), show (k + 1) * 128 - 128 = k * 128 by omega, List.nil_append]
theorem scs_get {S : List ByteArray} (h : A128 S) (i k : Nat) (hi : i < S.length) (hk : k < 128) : (scs S)[i * 128 + k]? = (sc S[i])[k]? := by
  have e := congrArg (fun x => x[k]?) (scs_drop h i)
  simp only [List.getElem?_drop] at e
  rw [e, List.drop_eq_getElem_cons hi]
  simp only [scs]
  rw [List.getElem?_append_left (by rw [sc_len, h.get hi]; exact hk)]
theorem sc_one (s : ByteArray) : ∀ u ∈ sc s, u.oneCell' = true := by
  intro u hu
  simp [sc] at hu
  obtain ⟨c, _, rfl⟩ := hu
  rfl
theorem scs_one (S : List ByteArray) : ∀ u ∈ scs S, u.oneCell' = true := by
  induction S with
  | nil => intro u hu; simp [scs] at hu
  | cons d l ih =>
    intro u hu
    simp only [scs, List.mem_append] at hu
    rcases hu with hu | hu
    · exact sc_one d u hu
    · exact ih u hu
/-- a sector of which the first bytes are new -/
def laid (d s : ByteArray) : ByteArray := d ++ s.extract d.size s.size
theorem ba_ext {a b : ByteArray} (h : a.data.toList = b.data.toList) : a = b := by
  cases a; cases b; simp at h; congr
theorem laid_list (d s : ByteArray) : (laid d s).data.toList = d.data.toList ++ s.data.toList.drop d.size := by
  rw [laid, ByteArray.data_append, Array.toList_append, ByteArray.data_extract, Array.toList_extract, List.extract_eq_take_drop]
  congr 1
  rw [List.take_of_length_le]
  rw [List.length_drop, Array.length_toList]
  exact Nat.le_refl _
theorem size_list (s : ByteArray) : s.size = s.data.toList.length := by rw [Array.length_toList]; rfl
theorem laid_size {d s : ByteArray} (h : d.size ≤ s.size) : (laid d s).size = s.size := by
  rw [size_list, laid_list, List.length_append, List.length_drop, ← size_list, ← size_list]; omega
theorem laid_all {d s : ByteArray} (h : d.size = s.size) : laid d s = d := by
  apply ba_ext
  rw [laid_list, List.drop_eq_nil_of_le (by rw [← size_list]; omega), List.append_nil]
theorem sc_laid (d s : ByteArray) : sc (laid d s) = sc d ++ (sc s).drop d.size := by
  simp only [sc, laid_list, List.map_append, List.map_drop]
/-- sectors, one of which is laid upon -/
def layS (S : List ByteArray) (k : Nat) (d : ByteArray) : List ByteArray := S.set k (laid d (S.getD k ByteArray.empty))
theorem layS_len (S : List ByteArray) (k : Nat) (d : ByteArray) : (layS S k d).length = S.length := by simp [layS]
theorem layS_128 {S : List ByteArray} (h : A128 S) {k : Nat} {d : ByteArray} (hk : k < S.length) (hd : d.size ≤ 128) : A128 (layS S k d) := by
  intro s hs
  rcases List.mem_or_eq_of_mem_set hs with h1 | rfl
  · exact h s h1
  · rw [List.getD_eq_getElem?_getD, List.getElem?_eq_getElem hk]
    show (laid d S[k]).size = 128
    rw [laid_size (by rw [h.get hk]; exact hd), h.get hk]
theorem scs_lay {S : List ByteArray} (h : A128 S) {k : Nat} {d : ByteArray} (hk : k < S.length) (hd : d.size ≤ 128) : splice (scs S) (k * 128) (sc d) = scs (layS S k d) := by
  induction S generalizing k with
  | nil => simp at hk
  | cons s l ih =>
    have h6 : (sc s).length = 128 := by rw [sc_len, h.head]
    cases k with
    | zero =>
      simp only [layS, splice, scs, List.set_cons_zero, List.getD_cons_zero, sc_laid, Nat.zero_mul, List.take_zero, List.nil_append, Nat.zero_add, sc_len, List.append_assoc]
      congr 1
      rw [List.drop_append_of_le_length (by rw [h6]; exact hd)]
    | succ k =>
      have e := ih h.tail (k := k) (by simpa using hk)
      simp only [layS, List.set_cons_succ, List.getD_cons_succ, scs] at e ⊢
      rw [← e]
      simp only [splice]
      rw [show (k + 1) * 128 = (sc s).length + k * 128 by rw [h6]; omega, List.take_length_add_append, Nat.add_assoc, List.drop_length_add_append, List.append_assoc]
/-- a write -/
structure Wr where
  sec : Int
  data : ByteArray
def Wr.cs (d : Wr) : List Value := [.int .i64 d.sec, .string d.data]
/-- the cells of writes -/
def wcs : List Wr → List Value
  | [] => []
  | d :: l => d.cs ++ wcs l
theorem wcs_len (l : List Wr) : (wcs l).length = l.length * 2 := by
  induction l with
  | nil => rfl
  | cons d l ih => simp only [wcs, List.length_append, ih, List.length_cons, Nat.add_mul]; simp [Wr.cs]; omega
theorem wcs_append (l m : List Wr) : wcs (l ++ m) = wcs l ++ wcs m := by
  induction l with
  | nil => rfl
  | cons d l ih => simp only [List.cons_append, wcs, ih, List.append_assoc]
theorem wcs_one (d : Wr) : wcs [d] = d.cs := by simp [wcs]
theorem wcs_drop (l : List Wr) (k : Nat) : (wcs l).drop (k * 2) = wcs (l.drop k) := by
  induction l generalizing k with
  | nil => simp [wcs]
  | cons d l ih =>
    cases k with
    | zero => simp
    | succ k =>
      have h6 : (Wr.cs d).length = 2 := rfl
      simp only [List.drop_succ_cons, wcs, List.drop_append, h6, ← ih]
      rw [List.drop_of_length_le (by rw [h6]; omega), show (k + 1) * 2 - 2 = k * 2 by omega, List.nil_append]
theorem wcs_get (l : List Wr) (i k : Nat) (hi : i < l.length) (hk : k < 2) : (wcs l)[i * 2 + k]? = (l[i]).cs[k]? := by
  have h := congrArg (fun x => x[k]?) (wcs_drop l i)
  simp only [List.getElem?_drop] at h
  rw [h, List.drop_eq_getElem_cons hi]
  simp only [wcs]
  rw [List.getElem?_append_left (by show k < 2; exact hk)]
theorem wcs_ones (l : List Wr) : ∀ u ∈ wcs l, u.oneCell' = true := by
  induction l with
  | nil => intro u hu; simp [wcs] at hu
  | cons d l ih =>
    intro u hu
    simp only [wcs, List.mem_append] at hu
    rcases hu with hu | hu
    · simp [Wr.cs] at hu
      rcases hu with rfl | rfl <;> rfl
    · exact ih u hu

/-- a disk, as the document says it -/
structure DS where
  S : List ByteArray
  R : List Wr
  dead : Bool
  left : Int
  byt : Int
/-- what may be -/
structure DS.ok (d : DS) : Prop where
  s128 : A128 d.S
  l0 : 0 ≤ d.left
  l1 : d.left ≤ 9223372036854775807
  b0 : 0 ≤ d.byt
  b1 : d.byt ≤ 128
  s0 : 0 < d.S.length
  s1 : d.S.length ≤ 1026
/-- Write's answer and the disk behind it -/
def DS.write (d : DS) (k : Int) (data : ByteArray) : Int × DS :=
  if d.dead = true then (2, d)
  else if ¬ (0 ≤ k ∧ k < (d.S.length : Int)) then (40, d)
  else if data.size ≠ 128 then (41, d)
  else if d.left = 1 then (2, { d with S := layS d.S k.toNat (data.extract 0 d.byt.toNat), dead := true })
  else (0, { d with S := layS d.S k.toNat data, R := d.R ++ [⟨k, data⟩], left := if 0 < d.left then d.left - 1 else d.left })
def DS.read (d : DS) (k : Int) : ByteArray × Int :=
  if d.dead = true then (ByteArray.empty, 2)
  else if ¬ (0 ≤ k ∧ k < (d.S.length : Int)) then (ByteArray.empty, 40)
  else (d.S.getD k.toNat ByteArray.empty, 0)
def DS.arm (d : DS) (n b : Int) : Int × DS :=
  if d.dead = true then (2, d)
  else if n < 0 ∨ ¬ (0 ≤ b ∧ b ≤ 128) then (1, d)
  else (0, { d with left := n, byt := b })
def DS.revive (d : DS) : DS := { d with dead := false, left := 0 }
def DS.forget (d : DS) : DS := { d with R := [] }
theorem ext_size (s : ByteArray) (n : Nat) : (s.extract 0 n).size = min n s.size := by simp
theorem DS.write_ok {d : DS} (h : d.ok) (k : Int) (data : ByteArray) : (d.write k data).2.ok := by
  unfold DS.write
  split
  · exact h
  · split
    · exact h
    · split
      · exact h
      · rename_i h1 h2 h3
        have hk : k.toNat < d.S.length := by omega
        split
        · refine ⟨layS_128 h.s128 hk ?_, h.l0, h.l1, h.b0, h.b1, ?_, ?_⟩
          · have := h.b1; rw [ext_size]; omega
          · show 0 < (layS _ _ _).length; rw [layS_len]; exact h.s0
          · show (layS _ _ _).length ≤ _; rw [layS_len]; exact h.s1
        · have := h.l0; have := h.l1
          refine ⟨layS_128 h.s128 hk (by omega), ?_, ?_, h.b0, h.b1, ?_, ?_⟩
          · show 0 ≤ (if 0 < d.left then d.left - 1 else d.left); split <;> omega
          · show (if 0 < d.left then d.left - 1 else d.left) ≤ _; split <;> omega
          · show 0 < (layS _ _ _).length; rw [layS_len]; exact h.s0
          · show (layS _ _ _).length ≤ _; rw [layS_len]; exact h.s1
theorem DS.arm_ok {d : DS} (h : d.ok) {n b : Int} (hn : n ≤ 9223372036854775807) : (d.arm n b).2.ok := by
  unfold DS.arm
  split
  · exact h
  · split
    · exact h
    · exact ⟨h.s128, by show 0 ≤ n; omega, hn, by show 0 ≤ b; omega, by show b ≤ 128; omega, h.s0, h.s1⟩
theorem DS.revive_ok {d : DS} (h : d.ok) : d.revive.ok := ⟨h.s128, Int.le_refl _, (by decide : (0 : Int) ≤ 9223372036854775807), h.b0, h.b1, h.s0, h.s1⟩
theorem DS.forget_ok {d : DS} (h : d.ok) : d.forget.ok := ⟨h.s128, h.l0, h.l1, h.b0, h.b1, h.s0, h.s1⟩
end Go.Proofs.Yteiickpokabmoab.D
