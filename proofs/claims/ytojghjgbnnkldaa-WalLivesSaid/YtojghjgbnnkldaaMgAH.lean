import Derived.Test.YtojghjgbnnkldaaRows
import Derived.WalkKit
import Derived.WalkSpells
import Derived.WalkLawsBesides
import Derived.BigQuiet
import Derived.Deep.Cut
import Derived.Deep.AppendLies
import Derived.Deep.RegionLaw
import Derived.Deep.RegionHeld3
import Derived.Laws.StructEq
import Derived.Laws.CopyOwn
import Derived.Laws.IdiomCopy
import Derived.Laws.MakeOwn
import Derived.Laws.OwnMore
import Derived.Laws.BytesString
import Derived.Laws.IdiomStrings
import Derived.Lib.SliceRun
import Derived.Laws.ResultCell

section
namespace Go.Proofs.Ytojghjgbnnkldaa.D
open Go.RowKit

theorem hide {p : Prop} (h : p) : Hid p := h
/-- cells of a text's bytes -/
def sc (s : ByteArray) : List Value := s.data.toList.map fun c => Value.int .u8 (c.toNat : Int)
theorem sc_len (s : ByteArray) : (sc s).length = s.size := by rw [sc, List.length_map, Array.length_toList]; rfl
/-- cells of sectors -/
def scs : List ByteArray → List Value
  | [] => []
  | s :: l => sc s ++ scs l
/-- each has 128 bytes -/
def A128 (S : List ByteArray) : Prop := ∀ s ∈ S, s.size = 128
theorem A128.tail {s : ByteArray} {S : List ByteArray} (h : A128 (s :: S)) : A128 S := fun x hx => h x (List.mem_cons_of_mem _ hx)
theorem A128.head {s : ByteArray} {S : List ByteArray} (h : A128 (s :: S)) : s.size = 128 := h s (List.mem_cons_self ..)
theorem A128.get {S : List ByteArray} (h : A128 S) {i : Nat} (hi : i < S.length) : (S[i]).size = 128 := h _ (List.getElem_mem hi)
theorem scs_len {S : List ByteArray} (h : A128 S) : (scs S).length = S.length * 128 := by
  induction S with
  | nil => rfl
  | cons s l ih => simp only [scs, List.length_append, ih h.tail, List.length_cons, sc_len, h.head]; omega
theorem scs_drop {S : List ByteArray} (h : A128 S) (k : Nat) : (scs S).drop (k * 128) = scs (S.drop k) := by
  induction S generalizing k with
  | nil => simp [scs]
  | cons s l ih =>
    cases k with
    | zero => simp
    | succ k =>
      have h6 : (sc s).length = 128 := by rw [sc_len, h.head]
      simp only [List.drop_succ_cons, scs, List.drop_append, h6, ← ih h.tail]
      rw [List.drop_of_length_le (by rw [h6]; omega), show (k + 1) * 128 - 128 = k * 128 by omega, List.nil_append]
theorem scs_get {S : List ByteArray} (h : A128 S) (i k : Nat) (hi : i < S.length) (hk : k < 128) : (scs S)[i * 128 + k]? = (sc S[i])[k]? := by
  have e := congrArg (fun x => x[k]?) (scs_drop h i)
  simp only [List.getElem?_drop] at e
  rw [e, List.drop_eq_getElem_cons hi]
  simp only [scs]
  rw [List.getElem?_append_left (by rw [sc_len, h.get hi]; exact hk)]
theorem sc_one (s : ByteArray) : ∀ u ∈ sc s, u.oneCell' = true := by
  intro u hu
  simp [sc] at hu
  obtain ⟨c, _, rfl⟩ := hu
  rfl
theorem scs_one (S : List ByteArray) : ∀ u ∈ scs S, u.oneCell' = true := by
  induction S with
  | nil => intro u hu; simp [scs] at hu
  | cons d l ih =>
    intro u hu
    simp only [scs, List.mem_append] at hu
    rcases hu with hu | hu
    · exact sc_one d u hu
    · exact ih u hu
/-- a sector of which the first bytes are new -/
def laid (d s : ByteArray) : ByteArray := d ++ s.extract d.size s.size
theorem ba_ext {a b : ByteArray} (h : a.data.toList = b.data.toList) : a = b := by
  cases a; cases b; simp at h; congr
theorem laid_list (d s : ByteArray) : (laid d s).data.toList = d.data.toList ++ s.data.toList.drop d.size := by
  rw [laid, ByteArray.data_append, Array.toList_append, ByteArray.data_extract, Array.toList_extract, List.extract_eq_take_drop]
  congr 1
  rw [List.take_of_length_le]
  rw [List.length_drop, Array.length_toList]
  exact Nat.le_refl _
theorem size_list (s : ByteArray) : s.size = s.data.toList.length := by rw [Array.length_toList]; rfl
theorem laid_size {d s : ByteArray} (h : d.size ≤ s.size) : (laid d s).size = s.size := by
  rw [size_list, laid_list, List.length_append, List.length_drop, ← size_list, ← size_list]; omega
theorem laid_all {d s : ByteArray} (h : d.size = s.size) : laid d s = d := by
  apply ba_ext
  rw [laid_list, List.drop_eq_nil_of_le (by rw [← size_list]; omega), List.append_nil]
theorem sc_laid (d s : ByteArray) : sc (laid d s) = sc d ++ (sc s).drop d.size := by
  simp only [sc, laid_list, List.map_append, List.map_drop]
/-- sectors, one of which is laid upon -/
def layS (S : List ByteArray) (k : Nat) (d : ByteArray) : List ByteArray := S.set k (laid d (S.getD k ByteArray.empty))
theorem layS_len (S : List ByteArray) (k : Nat) (d : ByteArray) : (layS S k d).length = S.length := by simp [layS]
theorem layS_128 {S : List ByteArray} (h : A128 S) {k : Nat} {d : ByteArray} (hk : k < S.length) (hd : d.size ≤ 128) : A128 (layS S k d) := by
  intro s hs
  rcases List.mem_or_eq_of_mem_set hs with h1 | rfl
  · exact h s h1
  · rw [List.getD_eq_getElem?_getD, List.getElem?_eq_getElem hk]
    show (laid d S[k]).size = 128
    rw [laid_size (by rw [h.get hk]; exact hd), h.get hk]
theorem scs_lay {S : List ByteArray} (h : A128 S) {k : Nat} {d : ByteArray} (hk : k < S.length) (hd : d.size ≤ 128) : splice (scs S) (k * 128) (sc d) = scs (layS S k d) := by
  induction S generalizing k with
  | nil => simp at hk
  | cons s l ih =>
    have h6 : (sc s).length = 128 := by rw [sc_len, h.head]
    cases k with
    | zero =>
      simp only [layS, splice, scs, List.set_cons_zero, List.getD_cons_zero, sc_laid, Nat.zero_mul, List.take_zero, List.nil_append, Nat.zero_add, sc_len, List.append_assoc]
      congr 1
      rw [List.drop_append_of_le_length (by rw [h6]; exact hd)]
    | succ k =>
      have e := ih h.tail (k := k) (by simpa using hk)
      simp only [layS, List.set_cons_succ, List.getD_cons_succ, scs] at e ⊢
      rw [← e]
      simp only [splice]
      rw [show (k + 1) * 128 = (sc s).length + k * 128 by rw [h6]; omega, List.take_length_add_append, Nat.add_assoc, List.drop_length_add_append, List.append_assoc]
/-- a write -/
structure Wr where
  sec : Int
  data : ByteArray
def Wr.cs (d : Wr) : List Value := [.int .i64 d.sec, .string d.data]
/-- the cells of writes -/
def wcs : List Wr → List Value
  | [] => []
  | d :: l => d.cs ++ wcs l
theorem wcs_len (l : List Wr) : (wcs l).length = l.length * 2 := by
  induction l with
  | nil => rfl
  | cons d l ih => simp only [wcs, List.length_append, ih, List.length_cons, Nat.add_mul]; simp [Wr.cs]; omega
theorem wcs_append (l m : List Wr) : wcs (l ++ m) = wcs l ++ wcs m := by
  induction l with
  | nil => rfl
  | cons d l ih => simp only [List.cons_append, wcs, ih, List.append_assoc]
theorem wcs_one (d : Wr) : wcs [d] = d.cs := by simp [wcs]
theorem wcs_drop (l : List Wr) (k : Nat) : (wcs l).drop (k * 2) = wcs (l.drop k) := by
  induction l generalizing k with
  | nil => simp [wcs]
  | cons d l ih =>
    cases k with
    | zero => simp
    | succ k =>
      have h6 : (Wr.cs d).length = 2 := rfl
      simp only [List.drop_succ_cons, wcs, List.drop_append, h6, ← ih]
      rw [List.drop_of_length_le (by rw [h6]; omega), show (k + 1) * 2 - 2 = k * 2 by omega, List.nil_append]
theorem wcs_get (l : List Wr) (i k : Nat) (hi : i < l.length) (hk : k < 2) : (wcs l)[i * 2 + k]? = (l[i]).cs[k]? := by
  have h := congrArg (fun x => x[k]?) (wcs_drop l i)
  simp only [List.getElem?_drop] at h
  rw [h, List.drop_eq_getElem_cons hi]
  simp only [wcs]
  rw [List.getElem?_append_left (by show k < 2; exact hk)]
theorem wcs_ones (l : List Wr) : ∀ u ∈ wcs l, u.oneCell' = true := by
  induction l with
  | nil => intro u hu; simp [wcs] at hu
  | cons d l ih =>
    intro u hu
    simp only [wcs, List.mem_append] at hu
    rcases hu with hu | hu
    · simp [Wr.cs] at hu
      rcases hu with rfl | rfl <;> rfl
    · exact ih u hu

/-- a disk, as the document says it -/
structure DS where
  S : List ByteArray
  R : List Wr
  dead : Bool
  left : Int
  byt : Int
/-- what may be -/
structure DS.ok (d : DS) : Prop where
  s128 : A128 d.S
  l0 : 0 ≤ d.left
  l1 : d.left ≤ 9223372036854775807
  b0 : 0 ≤ d.byt
  b1 : d.byt ≤ 128
  s0 : 0 < d.S.length
  s1 : d.S.length ≤ 1026
/-- Write's answer and the disk behind it -/
def DS.write (d : DS) (k : Int) (data : ByteArray) : Int × DS :=
  if d.dead = true then (2, d)
  else if ¬ (0 ≤ k ∧ k < (d.S.length : Int)) then (40, d)
  else if data.size ≠ 128 then (41, d)
  else if d.left = 1 then (2, { d with S := layS d.S k.toNat (data.extract 0 d.byt.toNat), dead := true })
  else (0, { d with S := layS d.S k.toNat data, R := d.R ++ [⟨k, data⟩], left := if 0 < d.left then d.left - 1 else d.left })
def DS.read (d : DS) (k : Int) : ByteArray × Int :=
  if d.dead = true then (ByteArray.empty, 2)
  else if ¬ (0 ≤ k ∧ k < (d.S.length : Int)) then (ByteArray.empty, 40)
  else (d.S.getD k.toNat ByteArray.empty, 0)
def DS.arm (d : DS) (n b : Int) : Int × DS :=
  if d.dead = true then (2, d)
  else if n < 0 ∨ ¬ (0 ≤ b ∧ b ≤ 128) then (1, d)
  else (0, { d with left := n, byt := b })
def DS.revive (d : DS) : DS := { d with dead := false, left := 0 }
def DS.forget (d : DS) : DS := { d with R := [] }
theorem ext_size (s : ByteArray) (n : Nat) : (s.extract 0 n).size = min n s.size := by simp
theorem DS.write_ok {d : DS} (h : d.ok) (k : Int) (data : ByteArray) : (d.write k data).2.ok := by
  unfold DS.write
  split
  · exact h
  · split
    · exact h
    · split
      · exact h
      · rename_i h1 h2 h3
        have hk : k.toNat < d.S.length := by omega
        split
        · refine ⟨layS_128 h.s128 hk ?_, h.l0, h.l1, h.b0, h.b1, ?_, ?_⟩
          · have := h.b1; rw [ext_size]; omega
          · show 0 < (layS _ _ _).length; rw [layS_len]; exact h.s0
          · show (layS _ _ _).length ≤ _; rw [layS_len]; exact h.s1
        · have := h.l0; have := h.l1
          refine ⟨layS_128 h.s128 hk (by omega), ?_, ?_, h.b0, h.b1, ?_, ?_⟩
          · show 0 ≤ (if 0 < d.left then d.left - 1 else d.left); split <;> omega
          · show (if 0 < d.left then d.left - 1 else d.left) ≤ _; split <;> omega
          · show 0 < (layS _ _ _).length; rw [layS_len]; exact h.s0
          · show (layS _ _ _).length ≤ _; rw [layS_len]; exact h.s1
theorem DS.arm_ok {d : DS} (h : d.ok) {n b : Int} (hn : n ≤ 9223372036854775807) : (d.arm n b).2.ok := by
  unfold DS.arm
  split
  · exact h
  · split
    · exact h
    · exact ⟨h.s128, by show 0 ≤ n; omega, hn, by show 0 ≤ b; omega, by show b ≤ 128; omega, h.s0, h.s1⟩
theorem DS.revive_ok {d : DS} (h : d.ok) : d.revive.ok := ⟨h.s128, Int.le_refl _, (by decide : (0 : Int) ≤ 9223372036854775807), h.b0, h.b1, h.s0, h.s1⟩
theorem DS.forget_ok {d : DS} (h : d.ok) : d.forget.ok := ⟨h.s128, h.l0, h.l1, h.b0, h.b1, h.s0, h.s1⟩
end Go.Proofs.Ytojghjgbnnkldaa.D
end

section
namespace Go.Proofs.Ytojghjgbnnkldaa.D
open Go.RowKit

/-- blocks F of w are turned, F' is what they have become -/
structure Mv (F F' : Nat → Prop) (w w' : World) : Prop where
  os : w'.os = w.os
  tape : w'.tape = w.tape
  output : w'.output = w.output
  size : w.heap.size ≤ w'.heap.size
  block : ∀ k, k < w.heap.size → ¬ F k → w'.heap[k]? = w.heap[k]?
  foot : ∀ k, F' k → F k ∨ w.heap.size ≤ k
theorem Mv.trans {F G H : Nat → Prop} {a b c : World} (h : Mv F G a b) (k : Mv G H b c) : Mv F H a c :=
  ⟨k.os.trans h.os, k.tape.trans h.tape, k.output.trans h.output, Nat.le_trans h.size k.size,
    fun i hi hf => (k.block i (Nat.lt_of_lt_of_le hi h.size) (fun hg => (h.foot i hg).elim hf (fun h2 => absurd hi (by omega)))).trans (h.block i hi hf),
    fun i hi => (k.foot i hi).elim (h.foot i) (fun h2 => .inr (Nat.le_trans h.size h2))⟩
theorem Mv.below {F F' : Nat → Prop} {w w' : World} (h : Mv F F' w w') {B : Nat} (hB : B ≤ w.heap.size) (hF : ∀ k, F k → B ≤ k) : Below B w w' :=
  ⟨h.os, h.tape, h.output, h.size, fun k hk => h.block k (by omega) (fun hf => absurd (hF k hf) (by omega))⟩
theorem Mv.of_below {F : Nat → Prop} {w w' : World} (h : Below w.heap.size w w') : Mv F F w w' :=
  ⟨h.os, h.tape, h.output, h.size, fun k hk _ => h.block k hk, fun _ hk => .inl hk⟩
theorem Mv.refl {F : Nat → Prop} (w : World) : Mv F F w w := ⟨rfl, rfl, rfl, Nat.le_refl _, fun _ _ _ => rfl, fun _ h => .inl h⟩
theorem below_up {B : Nat} {a b : World} (h : Below B a b) {C : Nat} (hc : C ≤ B) : Below C a b := ⟨h.os, h.tape, h.output, h.size, fun k hk => h.block k (by omega)⟩
theorem own_base {w : World} {B base : Nat} {e : TypeId} {size n : Nat} {v : Value} {xs : List Value} (h : w.ownsRow B e size v n xs) (hb : base ≤ B) : w.ownsRow base e size v n xs := by
  refine ⟨h.1, ?_⟩
  rcases h.2 with h1 | ⟨g, cap, cur, rfl, hg, h2⟩
  · exact .inl h1
  · exact .inr ⟨g, cap, cur, rfl, Nat.le_trans hb hg, h2⟩
theorem own_keep {w w' : World} {B : Nat} {e : TypeId} {size n : Nat} {v : Value} {xs : List Value} (h : w.ownsRow B e size v n xs) (hk : ∀ k, v.ownBlock = some k → w'.heap[k]? = w.heap[k]?) : w'.ownsRow B e size v n xs := by
  refine ⟨h.1, ?_⟩
  rcases h.2 with h1 | ⟨g, cap, cur, rfl, hg, hb, h2⟩
  · exact .inl h1
  · exact .inr ⟨g, cap, cur, rfl, hg, (hk g rfl).trans hb, h2⟩
theorem own_form {w : World} {B : Nat} {e : TypeId} {size n : Nat} {v : Value} {xs : List Value} (h : w.ownsRow B e size v n xs) : (v = .slice none 0 0 ∧ n = 0) ∨ ∃ g cap, v = .slice (some ⟨g, 0, none⟩) n cap ∧ g < w.heap.size ∧ n ≤ cap ∧ cap ≤ 9223372036854775807 := by
  rcases h.2 with h1 | ⟨g, cap, cur, rfl, hg, hh, h1, h2, _⟩
  · exact .inl h1
  · exact .inr ⟨g, cap, rfl, lt_of_block hh, h1, by unfold maxLen at h2; omega⟩
theorem own_slice {w : World} {B : Nat} {e : TypeId} {size n : Nat} {v : Value} {xs : List Value} (h : w.ownsRow B e size v n xs) : ∃ ad cap, v = .slice ad n cap := by
  rcases own_form h with ⟨h1, h2⟩ | ⟨g, cap, h1, _⟩
  · exact ⟨_, _, by rw [h2]; exact h1⟩
  · exact ⟨_, _, h1⟩

/-- a disk of the program: its block and its two rows -/
structure DkV (base : Nat) (w : World) (b : Nat) (vs vr : Value) (d : DS) : Prop where
  blk : w.heap[b]? = some (.cells #[vs, vr, .bool d.dead, .int .i64 d.left, .int .i64 d.byt] 55 (0, 0))
  low : base ≤ b
  sec : w.ownsRow base 76 128 vs d.S.length (scs d.S)
  raw : w.ownsRow base 80 2 vr d.R.length (wcs d.R)
  a1 : vs.ownBlock ≠ some b
  a2 : vr.ownBlock ≠ some b
  a3 : ∀ k, vs.ownBlock = some k → vr.ownBlock ≠ some k
  ok : d.ok
/-- its blocks -/
def Fd (b : Nat) (vs vr : Value) (k : Nat) : Prop := k = b ∨ vs.ownBlock = some k ∨ vr.ownBlock = some k
/-- a disk, F its blocks -/
def Dk (base : Nat) (w : World) (b : Nat) (F : Nat → Prop) (d : DS) : Prop := ∃ vs vr, DkV base w b vs vr d ∧ F = Fd b vs vr

section
variable {base : Nat} {w : World} {b : Nat} {vs vr : Value} {d : DS}
theorem DkV.lt (h : DkV base w b vs vr d) : b < w.heap.size := lt_of_block h.blk
theorem DkV.c0 (h : DkV base w b vs vr d) : w.cell? ⟨b, 0, none⟩ = some vs := by have := h.blk; simp [World.cell?, this]
theorem DkV.c1 (h : DkV base w b vs vr d) : w.cell? ⟨b, 1, none⟩ = some vr := by have := h.blk; simp [World.cell?, this]
theorem DkV.c2 (h : DkV base w b vs vr d) : w.cell? ⟨b, 2, none⟩ = some (.bool d.dead) := by have := h.blk; simp [World.cell?, this]
theorem DkV.c3 (h : DkV base w b vs vr d) : w.cell? ⟨b, 3, none⟩ = some (.int .i64 d.left) := by have := h.blk; simp [World.cell?, this]
theorem DkV.c4 (h : DkV base w b vs vr d) : w.cell? ⟨b, 4, none⟩ = some (.int .i64 d.byt) := by have := h.blk; simp [World.cell?, this]
theorem DkV.z (h : DkV base w b vs vr d) (k : Nat) : w.frozen? ⟨b, k, none⟩ = false := by have := h.blk; simp [World.frozen?, this]
theorem DkV.ftlt (h : DkV base w b vs vr d) : ∀ k, Fd b vs vr k → base ≤ k ∧ k < w.heap.size := by
  rintro k (rfl | hk | hk)
  · exact ⟨h.low, h.lt⟩
  · exact h.sec.lt k hk
  · exact h.raw.lt k hk
theorem DkV.keep {w' : World} (h : DkV base w b vs vr d) (hs : ∀ k, Fd b vs vr k → w'.heap[k]? = w.heap[k]?) : DkV base w' b vs vr d :=
  ⟨(hs b (.inl rfl)).trans h.blk, h.low, own_keep h.sec (fun k hk => hs k (.inr (.inl hk))), own_keep h.raw (fun k hk => hs k (.inr (.inr hk))), h.a1, h.a2, h.a3, h.ok⟩
/-- the block alone is written to -/
theorem DkV.put {w' : World} {d' : DS} (h : DkV base w b vs vr d) (hb : w'.heap[b]? = some (.cells #[vs, vr, .bool d'.dead, .int .i64 d'.left, .int .i64 d'.byt] 55 (0, 0)))
    (hs : ∀ k, k ≠ b → Fd b vs vr k → w'.heap[k]? = w.heap[k]?) (hS : d'.S = d.S) (hR : d'.R = d.R) (ok : d'.ok) : DkV base w' b vs vr d' :=
  ⟨hb, h.low, by rw [hS]; exact own_keep h.sec (fun k hk => hs k (fun e => h.a1 (by rw [← e]; exact hk)) (.inr (.inl hk))), by rw [hR]; exact own_keep h.raw (fun k hk => hs k (fun e => h.a2 (by rw [← e]; exact hk)) (.inr (.inr hk))), h.a1, h.a2, h.a3, ok⟩
theorem Dk.lt {F : Nat → Prop} (h : Dk base w b F d) : b < w.heap.size := by obtain ⟨_, _, h, _⟩ := h; exact h.lt
theorem Dk.ok {F : Nat → Prop} (h : Dk base w b F d) : d.ok := by obtain ⟨_, _, h, _⟩ := h; exact h.ok
theorem Dk.has {F : Nat → Prop} (h : Dk base w b F d) : F b := by obtain ⟨_, _, h, rfl⟩ := h; exact .inl rfl
theorem Dk.ftlt {F : Nat → Prop} (h : Dk base w b F d) : ∀ k, F k → base ≤ k ∧ k < w.heap.size := by obtain ⟨_, _, h, rfl⟩ := h; exact h.ftlt
theorem Dk.ftlow {F : Nat → Prop} (h : Dk base w b F d) : ∀ k, F k → base ≤ k := fun k hk => (h.ftlt k hk).1
theorem Dk.keep {w' : World} {F : Nat → Prop} (h : Dk base w b F d) (hs : ∀ k, F k → w'.heap[k]? = w.heap[k]?) : Dk base w' b F d := by
  obtain ⟨vs, vr, h, rfl⟩ := h
  exact ⟨vs, vr, h.keep hs, rfl⟩
theorem Dk.below {w' : World} {F : Nat → Prop} (h : Dk base w b F d) (hb : Below w.heap.size w w') : Dk base w' b F d :=
  h.keep fun k hk => hb.block k (h.ftlt k hk).2
theorem Dk.alloc {F : Nat → Prop} (h : Dk base w b F d) (o : Obj) : Dk base (w.alloc o) b F d := h.below ((Below.refl _ w).alloc (Nat.le_refl _) o)
theorem Dk.drew {F : Nat → Prop} (h : Dk base w b F d) : Dk base w.drew b F d := h.keep fun _ _ => rfl
theorem Dk.mv {w' : World} {F G G' : Nat → Prop} (h : Dk base w b F d) (hm : Mv G G' w w') (ha : ∀ k, F k → ¬ G k) : Dk base w' b F d :=
  h.keep fun k hk => hm.block k (h.ftlt k hk).2 (ha k hk)
theorem Dk.lower {F : Nat → Prop} (h : Dk base w b F d) {B : Nat} (hB : B ≤ base) : Dk B w b F d := by
  obtain ⟨vs, vr, h, rfl⟩ := h
  exact ⟨vs, vr, ⟨h.blk, Nat.le_trans hB h.low, own_base h.sec hB, own_base h.raw hB, h.a1, h.a2, h.a3, h.ok⟩, rfl⟩
end

/-- copy of a text into the middle of a row -/
theorem run_copy_str {P : Program} (w : World) (dT sT ty elem : TypeId) (g o dLen dCap : Nat) (data : ByteArray) (cur : Array Value) (t : TypeId)
    (hu : P.underlying dT = some (.slice elem)) (hs : (P.info? elem).map (·.size) = some 1)
    (hg : w.heap[g]? = some (.cells cur t (0, 0))) (hn : data.size ≤ dLen) (hfit : o + data.size ≤ cur.size) :
    (Builtin.copy_ #[dT, sT] ty #[.slice (some ⟨g, o, none⟩) dLen dCap, .string data]).run P w =
      .ok (goInt data.size) (w.setRow g (splice cur.toList o (sc data)).toArray) := by
  have hst := run_storeCells_at P g o t (sc data) 0 cur w hg (by rw [sc_len]; simpa using hfit) (sc_one data)
  have hx : (Array.map (fun b : UInt8 => Value.int .u8 (b.toNat : Int)) (data.extract 0 data.size).data).toList = sc data := by
    rw [Array.toList_map, sc]; simp
  cases hq : P.info? elem with
  | none => simp [hq] at hs
  | some i =>
    have hmin : Nat.min data.size dLen = data.size := Nat.min_eq_left hn
    have hfc : ∀ k, Builtin.firstCells k data.size (.string data) = pure (sc data).toArray := by
      intro k
      show (pure (Array.map (fun b : UInt8 => Value.int .u8 (b.toNat : Int)) (data.extract 0 data.size).data) : Sem (Array Value)) = _
      rw [← hx, Array.toArray_toList]
    rw [List.append_assoc, Nat.add_zero] at hst
    simp [Builtin.copy_, run_underlying hu, Builtin.lenOf, hfc, sizeOf, typeInfo, hq, hmin, hst, splice]
theorem wpList_copy_str {P : Program} {w : World} {ops : Array Oper} {rest : List Oper} {o : Oper} {a : Act} {Q : Exit → Act → World → Prop} (hgd : o.guard = none) (d s : Operand) (dT sT : TypeId)
    (ho : o.op = .call { callee := .builtin .copy, args := #[d, s], argTypes := #[dT, sT] }) (elem : TypeId) (hu : P.underlying dT = some (.slice elem)) (hsz : (P.info? elem).map (·.size) = some 1)
    (g off dLen dCap : Nat) (data : ByteArray) (hd : a.eval d = .slice (some ⟨g, off, none⟩) dLen dCap) (hs : a.eval s = .string data)
    (cur : Array Value) (t : TypeId) (hg : w.heap[g]? = some (.cells cur t (0, 0))) (hn : data.size ≤ dLen) (hfit : off + data.size ≤ cur.size)
    (h : wpList P ops Q rest (a.put o.dst (goInt data.size)) (w.setRow g (splice cur.toList off (sc data)).toArray)) : wpList P ops Q (o :: rest) a w := by
  refine wpList_plain hgd fun K hK => ?_
  have hrun := run_copy_str (P := P) w dT sT o.type elem g off dLen dCap data cur t hu hsz hg hn hfit
  unfold Oper.wp
  simp [execOp, ho, resolve, invoke, builtin, hd, hs, hrun, Result.andThen]
  exact hK _ _ h
theorem splice_append {α : Type} (A B : List α) (off : Nat) (cs : List α) (h : off + cs.length ≤ A.length) : splice (A ++ B) off cs = splice A off cs ++ B := by
  unfold splice
  rw [List.take_append_of_le_length (by omega), List.drop_append_of_le_length h]
  simp
theorem splice_take {α : Type} (L : List α) (off n : Nat) (cs : List α) (h : off + cs.length ≤ n) (hn : n ≤ L.length) : (splice L off cs).take n = splice (L.take n) off cs := by
  have hl : (L.take n).length = n := by rw [List.length_take]; omega
  rw [← List.take_append_drop n L, splice_append _ _ _ _ (by omega), List.take_append_drop, List.take_append_of_le_length (by rw [length_splice _ _ _ (by omega)]; omega), List.take_of_length_le (by rw [length_splice _ _ _ (by omega)]; omega)]
/-- a row of its own, of which the middle is new -/
theorem own_splice {w : World} {B : Nat} {e : TypeId} {size n g cap : Nat} {xs : List Value} (h : w.ownsRow B e size (.slice (some ⟨g, 0, none⟩) n cap) n xs) :
    ∃ cur, w.heap[g]? = some (.cells cur e (0, 0)) ∧ n * size ≤ cur.size ∧ ∀ off cs, off + cs.length ≤ n * size → (w.setRow g (splice cur.toList off cs).toArray).ownsRow B e size (.slice (some ⟨g, 0, none⟩) n cap) n (splice xs off cs) := by
  obtain ⟨hl, h2⟩ := h
  rcases h2 with ⟨h1, _⟩ | ⟨g', cap', cur, h1, hb, hg, hc, hm, hs, ht⟩
  · cases h1
  · injection h1 with h1 h2 h3
    injection h1 with h1
    injection h1 with h1
    subst h1; subst h3
    have hle : n * size ≤ cur.size := by rw [hs]; exact Nat.mul_le_mul_right _ hc
    refine ⟨cur, hg, hle, fun off cs hf => ⟨by rw [length_splice _ _ _ (by omega)]; exact hl, .inr ⟨g, cap, _, rfl, hb, setRow_heap w g _ _ e _ hg, hc, hm, ?_, ?_⟩⟩⟩
    · rw [List.size_toArray, length_splice _ _ _ (by have := cur.length_toList; omega), Array.length_toList]; exact hs
    · rw [List.toList_toArray, splice_take _ _ _ _ hf (by rw [Array.length_toList]; exact hle), ht]
end Go.Proofs.Ytojghjgbnnkldaa.D
end

section
namespace Go.Proofs.Ytojghjgbnnkldaa.D
open Go.RowKit

theorem Try.infoU : (Try.prog.info? 5).map (·.size) = some 1 := by kernel_rfl

theorem setRow_far (w : World) (g k : Nat) (cs : Array Value) (h : k ≠ g) : (w.setRow g cs).heap[k]? = w.heap[k]? := setRow_other w g k cs h
theorem setRow_size (w : World) (g : Nat) (cs : Array Value) : (w.setRow g cs).heap.size = w.heap.size := by simp [World.setRow]

section
variable {base : Nat} {w : World} {b : Nat} {vs vr : Value} {d : DS}
theorem DkV.form (h : DkV base w b vs vr d) : ∃ g cap, vs = .slice (some ⟨g, 0, none⟩) d.S.length cap ∧ g < w.heap.size ∧ d.S.length ≤ cap ∧ cap ≤ 9223372036854775807 := by
  rcases own_form h.sec with ⟨_, hn⟩ | h1
  · have := h.ok.s0; omega
  · exact h1
end

set_option maxHeartbeats 400000 in
theorem lay_any {base : Nat} {w : World} {b : Nat} {vs vr : Value} {d : DS} (h : DkV base w b vs vr d) (k : Nat) (data : ByteArray) (hk : k < d.S.length) (hd : data.size ≤ 128) :
    Calls Try.prog 69 #[.pointer (some ⟨b, 0, none⟩), .int .i64 (k : Int), .string data] w fun e w' => e = .returned (.tuple #[]) ∧ DkV base w' b vs vr { d with S := layS d.S k data } ∧ Mv (Fd b vs vr) (Fd b vs vr) w w' := by
  obtain ⟨g, cap, hv, hg, hc, hcm⟩ := h.form
  have c0 := h.c0
  rw [hv] at c0
  have H := hide h
  have hS := h.ok.s1
  have hkl : decide ((k : Int) < (d.S.length : Int)) = true := by simp; omega
  obtain ⟨cur, hcur, hsz, hown⟩ := own_splice (hv ▸ h.sec)
  have HC := hide hcur
  have HO := hide hown
  have HZ := hide hsz
  clear hcur hown hsz h
  go_enter Try.func69, Try.ntmps69
  obtain ⟨X, hX⟩ : ∃ X, (splice cur.toList (k * 128) (sc data)).toArray = X := ⟨_, rfl⟩
  have hcp := run_copy_str (P := Try.prog) w 45 9 3 5 g (k * 128) 128 128 data cur 76 Try.underlying45 Try.infoU HC.out hd (by have := HZ.out; omega)
  rw [hX] at hcp
  have HX := hide hX
  clear hX
  go_wp2
  go_end0
  obtain rfl := HX.out
  have h := H.out
  have hgb : g ≠ b := fun e => h.a1 (by rw [hv, ← e]; rfl)
  have hgr : vr.ownBlock ≠ some g := h.a3 g (by rw [hv]; rfl)
  refine ⟨rfl, ⟨?_, h.low, ?_, own_keep h.raw (fun j hj => setRow_far _ _ _ _ (fun e => hgr (by rw [← e]; exact hj))), h.a1, h.a2, h.a3, ?_⟩, rfl, rfl, rfl, Nat.le_of_eq (setRow_size _ _ _).symm, fun j hj hn => setRow_far _ _ _ _ (fun e => hn (.inr (.inl (by rw [hv, e]; rfl)))), fun j hj => .inl hj⟩
  · rw [setRow_far _ _ _ _ (Ne.symm hgb)]; exact h.blk
  · show World.ownsRow _ _ _ _ vs (layS d.S k data).length (scs (layS d.S k data))
    rw [layS_len, ← scs_lay h.ok.s128 hk hd, hv]
    exact HO.out (k * 128) (sc data) (by rw [sc_len]; omega)
  · exact ⟨layS_128 h.ok.s128 hk hd, h.ok.l0, h.ok.l1, h.ok.b0, h.ok.b1, by show 0 < (layS _ _ _).length; rw [layS_len]; exact h.ok.s0, by show (layS _ _ _).length ≤ _; rw [layS_len]; exact h.ok.s1⟩

set_option maxHeartbeats 400000 in
theorem size_any {base : Nat} {w : World} {b : Nat} {F : Nat → Prop} {d : DS} (h : Dk base w b F d) :
    Calls Try.prog 42 #[.pointer (some ⟨b, 0, none⟩)] w fun e w' => e = .returned (.int .i64 (d.S.length : Int)) ∧ w' = w := by
  obtain ⟨vs, vr, h, -⟩ := h
  obtain ⟨g, cap, hv, hg, hc, hcm⟩ := h.form
  have c0 := h.c0
  rw [hv] at c0
  clear h hv
  go_enter Try.func42, Try.ntmps42
  go_wp2
  go_ret
  exact ⟨rfl, rfl⟩
set_option maxHeartbeats 400000 in
theorem dead_any {base : Nat} {w : World} {b : Nat} {F : Nat → Prop} {d : DS} (h : Dk base w b F d) :
    Calls Try.prog 11 #[.pointer (some ⟨b, 0, none⟩)] w fun e w' => e = .returned (.bool d.dead) ∧ w' = w := by
  obtain ⟨vs, vr, h, -⟩ := h
  have c0 := h.c2
  clear h
  go_enter Try.func11, Try.ntmps11
  go_wp2
  go_ret
  exact ⟨rfl, rfl⟩
theorem setFive {w : World} {b : Nat} {T : TypeId} {c0 c1 c2 c3 c4 : Value} (h : w.heap[b]? = some (.cells #[c0, c1, c2, c3, c4] T (0, 0))) (k : Nat) (v : Value) :
    (w.setCell ⟨b, k, none⟩ v).heap[b]? = some (.cells (#[c0, c1, c2, c3, c4].setIfInBounds k v) T (0, 0)) := by
  have hlt := lt_of_block h
  have h' : w.heap[b] = .cells #[c0, c1, c2, c3, c4] T (0, 0) := by simpa [Array.getElem?_eq_getElem hlt] using h
  show (w.heap.modify b _)[b]? = _
  rw [Array.getElem?_eq_getElem (by simpa using hlt), Array.getElem_modify_self, h']
  rfl
theorem setCell_size (w : World) (a : Addr) (v : Value) : (w.setCell a v).heap.size = w.heap.size := by simp [World.setCell]
theorem Mv.set {F : Nat → Prop} {w w' : World} (h : Mv F F w w') {a : Addr} (ha : F a.block) (v : Value) : Mv F F w (w'.setCell a v) :=
  ⟨h.os, h.tape, h.output, by rw [setCell_size]; exact h.size, fun k hk hn => (Below.heap_setCell w' a v k (fun e => hn (by rw [e]; exact ha))).trans (h.block k hk hn), h.foot⟩

set_option maxHeartbeats 400000 in
theorem revive_any {base : Nat} {w : World} {b : Nat} {F : Nat → Prop} {d : DS} (h : Dk base w b F d) :
    Calls Try.prog 25 #[.pointer (some ⟨b, 0, none⟩)] w fun e w' => e = .returned (.tuple #[]) ∧ Dk base w' b F d.revive ∧ Mv F F w w' := by
  obtain ⟨vs, vr, h, rfl⟩ := h
  have c2 := h.c2
  have c3 := h.c3
  have z := h.z
  have H := hide h
  clear h
  go_enter Try.func25, Try.ntmps25
  go_wp2
  go_end0
  refine ⟨rfl, ⟨vs, vr, H.out.put (d' := d.revive) ?_ (fun k hk _ => ?_) rfl rfl (DS.revive_ok H.out.ok), rfl⟩, ((Mv.refl w).set (.inl rfl) _).set (.inl rfl) _⟩
  · rw [setFive (setFive H.out.blk 2 _) 3 _]; rfl
  · rw [Below.heap_setCell _ _ _ k hk, Below.heap_setCell _ _ _ k hk]

set_option maxHeartbeats 1000000 in
theorem arm_any {base : Nat} {w : World} {b : Nat} {F : Nat → Prop} {d : DS} (h : Dk base w b F d) (n m : Int) (hn : n ≤ 9223372036854775807) :
    Calls Try.prog 23 #[.pointer (some ⟨b, 0, none⟩), .int .i64 n, .int .i64 m] w fun e w' => e = .returned (.int .i64 (d.arm n m).1) ∧ Dk base w' b F (d.arm n m).2 ∧ Mv F F w w' := by
  obtain ⟨vs, vr, h, rfl⟩ := h
  have c2 := h.c2
  have c3 := h.c3
  have c4 := h.c4
  have z := h.z
  have H := hide h
  have ho := DS.arm_ok (d := d) (b := m) h.ok hn
  clear h
  unfold DS.arm at ho ⊢
  cases hd : d.dead
  · rw [hd] at c2
    simp only [hd, Bool.false_eq_true, if_false] at ho ⊢
    by_cases h1 : n < 0
    · rw [if_pos (.inl h1)]
      have b0 : decide (n < 0) = true := by simp; omega
      clear ho
      go_enter Try.func23, Try.ntmps23
      go_wp2
      go_ret
      exact ⟨rfl, ⟨vs, vr, H.out, rfl⟩, Mv.refl _⟩
    · by_cases h2 : 0 ≤ m ∧ m ≤ 128
      · rw [if_neg (by omega)] at ho ⊢
        have b0 : decide (n < 0) = false := by simp; omega
        have b1 : decide (0 ≤ m) = true := by simp; omega
        have b2 : decide (m ≤ 128) = true := by simp; omega
        have HO := hide ho
        clear ho h1 h2
        go_enter Try.func23, Try.ntmps23
        go_wp2
        go_ret
        refine ⟨rfl, ⟨vs, vr, H.out.put ?_ (fun k hk _ => ?_) rfl rfl HO.out, rfl⟩, ((Mv.refl w).set (.inl rfl) _).set (.inl rfl) _⟩
        · rw [setFive (setFive H.out.blk 3 _) 4 _, hd]; rfl
        · rw [Below.heap_setCell _ _ _ k hk, Below.heap_setCell _ _ _ k hk]
      · rw [if_pos (.inr h2)]
        have b0 : decide (n < 0) = false := by simp; omega
        clear ho
        by_cases h3 : 0 ≤ m
        · have b1 : decide (0 ≤ m) = true := by simp; omega
          have b2 : decide (m ≤ 128) = false := by simp; omega
          clear h1 h2 h3
          go_enter Try.func23, Try.ntmps23
          go_wp2
          go_ret
          exact ⟨rfl, ⟨vs, vr, H.out, rfl⟩, Mv.refl _⟩
        · have b1 : decide (0 ≤ m) = false := by simp; omega
          clear h1 h2 h3
          go_enter Try.func23, Try.ntmps23
          go_wp2
          go_ret
          exact ⟨rfl, ⟨vs, vr, H.out, rfl⟩, Mv.refl _⟩
  · rw [hd] at c2
    simp only [hd, if_true] at ho ⊢
    clear ho
    go_enter Try.func23, Try.ntmps23
    go_wp2
    go_ret
    exact ⟨rfl, ⟨vs, vr, H.out, rfl⟩, Mv.refl _⟩
end Go.Proofs.Ytojghjgbnnkldaa.D
end

section
namespace Go.Proofs.Ytojghjgbnnkldaa.D
open Go.RowKit

/-- a sector's bytes, as a text -/
theorem sec_str {base : Nat} {w : World} {b g cap : Nat} {vr : Value} {d : DS} (h : DkV base w b (.slice (some ⟨g, 0, none⟩) d.S.length cap) vr d) {k : Nat} (hk : k < d.S.length) :
    (convert 45 9 (.slice (some ⟨g, k * 128, none⟩) 128 128)).run Try.prog w = .ok (.string d.S[k]) w := by
  have hs := h.ok.s128.get hk
  have hl : (d.S[k]).data.toList.length = 128 := by rw [← size_list]; exact hs
  have e := run_convert_bytes_back (P := Try.prog) w 45 9 5 ⟨g, k * 128, none⟩ 128 (d.S[k]).data.toList Try.underlying45 Try.underlying5 Try.underlying9 (by
    intro j hj
    have hg := scs_get h.ok.s128 k j hk (by omega)
    rw [show (sc d.S[k])[j]? = some (.int .u8 (((d.S[k]).data.toList[j]).toNat : Int)) by rw [sc, List.getElem?_map, List.getElem?_eq_getElem hj]; rfl] at hg
    have := h.sec.cells (g := g) rfl (k * 128 + j) _ hg
    rw [Addr.add_lit, Nat.zero_add] at this
    rw [Addr.add_lit]
    exact this)
  rw [hl] at e
  rw [e]

set_option maxHeartbeats 1000000 in
theorem read_any {base : Nat} {w : World} {b : Nat} {F : Nat → Prop} {d : DS} (h : Dk base w b F d) (k : Int) :
    Calls Try.prog 61 #[.pointer (some ⟨b, 0, none⟩), .int .i64 k] w fun e w' => e = .returned (.tuple #[.string (d.read k).1, .int .i64 (d.read k).2]) ∧ w' = w := by
  have hsz := size_any h
  obtain ⟨vs, vr, h, rfl⟩ := h
  obtain ⟨g, cap, hv, hg, hc, hcm⟩ := h.form
  have c2 := h.c2
  have hS := h.ok.s1
  unfold DS.read
  cases hd : d.dead
  · rw [hd] at c2
    simp only [Bool.false_eq_true, if_false]
    by_cases hk : 0 ≤ k ∧ k < (d.S.length : Int)
    · rw [if_neg (by simpa using hk)]
      obtain ⟨n, rfl⟩ : ∃ n : Nat, k = (n : Int) := ⟨k.toNat, by omega⟩
      have hn : n < d.S.length := by omega
      have hcv := sec_str (hv ▸ h) hn
      have c0 := h.c0
      rw [hv] at c0
      have hget : d.S.getD (n : Int).toNat ByteArray.empty = d.S[n] := by rw [Int.toNat_natCast, List.getD_eq_getElem?_getD, List.getElem?_eq_getElem hn]; rfl
      rw [hget]
      generalize d.S[n] = s at *
      have b0 : decide ((0 : Int) ≤ (n : Int)) = true := by simp
      have b1 : decide ((n : Int) < (d.S.length : Int)) = true := by simp; omega
      have HSZ := hide hsz
      clear h hv hk hget hsz
      go_enter Try.func61, Try.ntmps61
      go_wp2_with (first
        | (go_at_call 42; refine HSZ.out.mono ?_; rintro e w1 ⟨rfl, rfl⟩)
        | go_in)
      go_ret2
      exact ⟨rfl, rfl⟩
    · rw [if_pos (by simpa using hk)]
      have HSZ := hide hsz
      by_cases h0 : 0 ≤ k
      · have b0 : decide ((0 : Int) ≤ k) = true := by simp; omega
        have b1 : decide (k < (d.S.length : Int)) = false := by simp; omega
        clear h hv hk h0 hsz
        go_enter Try.func61, Try.ntmps61
        go_wp2_with (first
          | (go_at_call 42; refine HSZ.out.mono ?_; rintro e w1 ⟨rfl, rfl⟩)
          | go_in)
        go_ret2
        exact ⟨rfl, rfl⟩
      · have b0 : decide ((0 : Int) ≤ k) = false := by simp; omega
        clear h hv hk h0 hsz
        go_enter Try.func61, Try.ntmps61
        go_wp2_with (first
          | (go_at_call 42; refine HSZ.out.mono ?_; rintro e w1 ⟨rfl, rfl⟩)
          | go_in)
        go_ret2
        exact ⟨rfl, rfl⟩
  · rw [hd] at c2
    simp only [if_true]
    clear h hv hsz
    go_enter Try.func61, Try.ntmps61
    go_wp2
    go_ret2
    exact ⟨rfl, rfl⟩

theorem Try.infoW : (Try.prog.info? 80).map (fun i => (i.zero, i.size, i.bytes)) = some (some (.agg #[.int .i64 0, .string ByteArray.empty]), 2, 24) := by kernel_rfl
theorem Try.infoC : (Try.prog.info? 76).map (fun i => (i.zero, i.size, i.bytes)) = some (some (.agg (Array.replicate 128 (.int .u8 0))), 128, 128) := by kernel_rfl
theorem Try.infoS : (Try.prog.info? 9).map (fun i => (i.zero, i.size, i.bytes)) = some (some (.string ByteArray.empty), 1, 16) := by kernel_rfl

set_option maxHeartbeats 400000 in
theorem forget_any {base : Nat} {w : World} {b : Nat} {F : Nat → Prop} {d : DS} (h : Dk base w b F d) :
    Calls Try.prog 30 #[.pointer (some ⟨b, 0, none⟩)] w fun e w' => e = .returned (.tuple #[]) ∧ ∃ F', Dk base w' b F' d.forget ∧ Mv F F' w w' := by
  obtain ⟨vs, vr, h, rfl⟩ := h
  have c1 := h.c1
  have z := h.z
  have H := hide h
  clear h
  go_enter Try.func30, Try.ntmps30
  go_wp2
  go_end0
  have h := H.out
  refine ⟨rfl, _, ⟨vs, .slice none 0 0, ⟨?_, h.low, ?_, World.ownsRow_nil _ _ _ _, h.a1, by simp [Value.ownBlock], fun k hk => by simp [Value.ownBlock], DS.forget_ok h.ok⟩, rfl⟩, ?_⟩
  · rw [setFive h.blk 1 _]; rfl
  · exact own_keep h.sec (fun k hk => Below.heap_setCell _ _ _ k (fun e => h.a1 (by rw [hk]; exact congrArg some e)))
  · have hm := (Mv.refl (F := Fd b vs vr) w).set (a := ⟨b, 1, none⟩) (.inl rfl) (.slice none 0 0)
    refine ⟨hm.os, hm.tape, hm.output, hm.size, hm.block, fun k hk => ?_⟩
    rcases hk with hk | hk | hk
    · exact .inl (.inl hk)
    · exact .inl (.inr (.inl hk))
    · simp [Value.ownBlock] at hk

set_option maxHeartbeats 1000000 in
theorem wclone_any {base : Nat} {w : World} {v : Value} {l : List Wr} (h : w.ownsRow base 80 2 v l.length (wcs l)) (hl : l.length * 24 ≤ 140737488355328) :
    Calls Try.prog 44 #[v] w fun e w' => ∃ v', e = .returned v' ∧ w'.ownsRow w.heap.size 80 2 v' l.length (wcs l) ∧ Below w.heap.size w w' := by
  obtain ⟨i0, hi0, hz0, hz1, hz2⟩ := info_parts Try.infoW
  rcases own_form h with ⟨rfl, hn⟩ | ⟨g, cap, rfl, hg, _⟩
  · have HE : Hid (w.ownsRow w.heap.size 80 2 (.slice none 0 0) l.length (wcs l)) := by
      obtain rfl : l = [] := List.length_eq_zero_iff.1 hn
      exact World.ownsRow_nil _ _ _ _
    have he : ∀ w : World, (binOp .eql 53 (.slice none 0 0) (.slice none 0 0)).run Try.prog w = .ok (.bool true) w := fun _ => by kernel_rfl
    clear h hn
    go_enter Try.func44, Try.ntmps44
    go_wp2
    go_ret
    exact ⟨_, rfl, HE.out, Below.refl _ _⟩
  · have HR := hide h
    have he : ∀ w : World, (binOp .eql 53 (.slice (some ⟨g, 0, none⟩) l.length cap) (.slice none 0 0)).run Try.prog w = .ok (.bool false) w := fun _ => by kernel_rfl
    clear h
    go_enter Try.func44, Try.ntmps44
    go_wp2_with (at_builtin; refine wpList_append_own _ rfl _ _ 53 rfl w.heap.size 80 i0 (.agg #[.int .i64 0, .string ByteArray.empty]) 2 24 Try.underlying53 hi0 hz0 hz1 hz2 rfl (by decide) (.slice (some ⟨w.heap.size, 0, none⟩) 0 0) 0 [] rfl (World.ownsRow_made w #[] 0 (Nat.le_refl _) (by decide) rfl) ⟨g, 0, none⟩ l.length cap (wcs l) rfl (wcs_len l) (fun j u hu => Lib.cell?_alloc_some _ (HR.out.cells (g := g) rfl j u hu)) (wcs_ones l) (by unfold maxLen; omega) (by omega) (by rw [World.size_alloc]; omega) ?_; intro v' w1 hown hgrow hnil)
    go_ret
    rw [Nat.zero_add, List.nil_append] at hown
    exact ⟨_, rfl, hown, ((Below.refl _ w).alloc (Nat.le_refl _) _).grown hgrow (by rw [World.size_alloc]; omega) (fun k hk => by simp only [Value.ownBlock] at hk; injection hk with hk; omega)⟩

set_option maxHeartbeats 1000000 in
theorem sclone_any {base : Nat} {w : World} {v : Value} {S : List ByteArray} (h : w.ownsRow base 76 128 v S.length (scs S)) (h8 : A128 S) (h0 : 0 < S.length) (hl : S.length ≤ 1026) :
    Calls Try.prog 43 #[v] w fun e w' => ∃ v', e = .returned v' ∧ w'.ownsRow w.heap.size 76 128 v' S.length (scs S) ∧ Below w.heap.size w w' := by
  obtain ⟨i0, hi0, hz0, hz1, hz2⟩ := info_parts Try.infoC
  rcases own_form h with ⟨rfl, hn⟩ | ⟨g, cap, rfl, hg, _⟩
  · omega
  · have HR := hide h
    have he : ∀ w : World, (binOp .eql 52 (.slice (some ⟨g, 0, none⟩) S.length cap) (.slice none 0 0)).run Try.prog w = .ok (.bool false) w := fun _ => by kernel_rfl
    clear h
    go_enter Try.func43, Try.ntmps43
    go_wp2_with (at_builtin; refine wpList_append_own _ rfl _ _ 52 rfl w.heap.size 76 i0 (.agg (Array.replicate 128 (.int .u8 0))) 128 128 Try.underlying52 hi0 hz0 hz1 hz2 rfl (by decide) (.slice (some ⟨w.heap.size, 0, none⟩) 0 0) 0 [] rfl (World.ownsRow_made w #[] 0 (Nat.le_refl _) (by decide) rfl) ⟨g, 0, none⟩ S.length cap (scs S) rfl (scs_len h8) (fun j u hu => Lib.cell?_alloc_some _ (HR.out.cells (g := g) rfl j u hu)) (scs_one S) (by unfold maxLen; omega) (by omega) (by rw [World.size_alloc]; omega) ?_; intro v' w1 hown hgrow hnil)
    go_ret
    rw [Nat.zero_add, List.nil_append] at hown
    exact ⟨_, rfl, hown, ((Below.refl _ w).alloc (Nat.le_refl _) _).grown hgrow (by rw [World.size_alloc]; omega) (fun k hk => by simp only [Value.ownBlock] at hk; injection hk with hk; omega)⟩

set_option maxHeartbeats 400000 in
theorem raw_any {base : Nat} {w : World} {b : Nat} {F : Nat → Prop} {d : DS} (h : Dk base w b F d) (hl : d.R.length * 24 ≤ 140737488355328) :
    Calls Try.prog 51 #[.pointer (some ⟨b, 0, none⟩)] w fun e w' => ∃ v', e = .returned v' ∧ w'.ownsRow w.heap.size 80 2 v' d.R.length (wcs d.R) ∧ Below w.heap.size w w' := by
  obtain ⟨vs, vr, h, rfl⟩ := h
  have c1 := h.c1
  have hC := hide (wclone_any h.raw hl)
  clear h
  go_enter Try.func51, Try.ntmps51
  go_wp2_with fail
  refine hC.out.mono ?_
  rintro e w1 ⟨v', rfl, h1, h2⟩
  have H1 := hide h1
  have H2 := hide h2
  clear h1 h2
  go_wp2
  go_ret
  exact ⟨_, rfl, H1.out, H2.out⟩
end Go.Proofs.Ytojghjgbnnkldaa.D
end
