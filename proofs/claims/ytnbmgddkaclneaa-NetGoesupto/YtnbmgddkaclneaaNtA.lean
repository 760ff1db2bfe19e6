import Derived.Test.YtnbmgddkaclneaaRows
import Derived.WalkKit
import Derived.WalkSpells
import Derived.WalkLawsBesides
import Derived.BigQuiet
import Derived.Deep.Cut
import Derived.Deep.AppendLies
import Derived.Deep.RegionLaw
import Derived.Deep.RegionHeld3
import Derived.Laws.StructEq
import Derived.Laws.IdiomCopy
import Derived.Lib.SliceRun
namespace Go.Proofs.Ytnbmgddkaclneaa
open Go.RowKit

theorem hide {p : Prop} (h : p) : Hid p := h
/-- a datagram -/
structure Dg where
  num : Int
  fn : Int
  fl : Int
  tn : Int
  tl : Int
  data : ByteArray
/-- its cells -/
def Dg.cs (d : Dg) : List Value := [.int .i64 d.num, .int .i64 d.fn, .int .i64 d.fl, .int .i64 d.tn, .int .i64 d.tl, .string d.data]
/-- as a value -/
abbrev Dg.val (d : Dg) : Value := .agg #[.int .i64 d.num, .int .i64 d.fn, .int .i64 d.fl, .int .i64 d.tn, .int .i64 d.tl, .string d.data]
def dg0 : Dg := ⟨0, 0, 0, 0, 0, ByteArray.empty⟩
/-- the cells of a row -/
def dcs : List Dg → List Value
  | [] => []
  | d :: l => d.cs ++ dcs l
theorem dcs_len (l : List Dg) : (dcs l).length = l.length * 6 := by
  induction l with
  | nil => rfl
  | cons d l ih => simp only [dcs, List.length_append, ih, List.length_cons, Nat.add_mul]; simp [Dg.cs]; omega
theorem dcs_append (l m : List Dg) : dcs (l ++ m) = dcs l ++ dcs m := by
  induction l with
  | nil => rfl
  | cons d l ih => simp only [List.cons_append, dcs, ih, List.append_assoc]
theorem dcs_one (d : Dg) : dcs [d] = d.cs := by simp [dcs]
theorem dcs_take (l : List Dg) (k : Nat) : (dcs l).take (k * 6) = dcs (l.take k) := by
  induction l generalizing k with
  | nil => simp [dcs]
  | cons d l ih =>
    cases k with
    | zero => simp [dcs]
    | succ k =>
      have h6 : (Dg.cs d).length = 6 := rfl
      simp only [List.take_succ_cons, dcs, List.take_append, h6, ← ih]
      rw [List.take_of_length_le (by rw [h6]; omega), show (k + 1) * 6 - 6 = k * 6 by omega]
theorem dcs_drop (l : List Dg) (k : Nat) : (dcs l).drop (k * 6) = dcs (l.drop k) := by
  induction l generalizing k with
  | nil => simp [dcs]
  | cons d l ih =>
    cases k with
    | zero => simp
    | succ k =>
      have h6 : (Dg.cs d).length = 6 := rfl
      simp only [List.drop_succ_cons, dcs, List.drop_append, h6, ← ih]
      rw [List.drop_of_length_le (by rw [h6]; omega), show (k + 1) * 6 - 6 = k * 6 by omega, List.nil_append]
theorem dcs_get (l : List Dg) (i k : Nat) (hi : i < l.length) (hk : k < 6) : (dcs l)[i * 6 + k]? = (l[i]).cs[k]? := by
  have h := congrArg (fun x => x[k]?) (dcs_drop l i)
  simp only [List.getElem?_drop] at h
  rw [h, List.drop_eq_getElem_cons hi]
  simp only [dcs]
  rw [List.getElem?_append_left (by show k < 6; exact hk)]
theorem dcs_one_cell (l : List Dg) : ∀ u ∈ dcs l, u.oneCell' = true := by
  induction l with
  | nil => intro u hu; simp [dcs] at hu
  | cons d l ih =>
    intro u hu
    simp only [dcs, List.mem_append] at hu
    rcases hu with hu | hu
    · simp [Dg.cs] at hu
      rcases hu with rfl | rfl | rfl | rfl | rfl | rfl <;> rfl
    · exact ih u hu

/-- blocks F of w are turned, F' is what they have become -/
structure Mv (F F' : Nat → Prop) (w w' : World) : Prop where
  os : w'.os = w.os
  tape : w'.tape = w.tape
  output : w'.output = w.output
  size : w.heap.size ≤ w'.heap.size
  block : ∀ k, k < w.heap.size → ¬ F k → w'.heap[k]? = w.heap[k]?
  foot : ∀ k, F' k → F k ∨ w.heap.size ≤ k
theorem Mv.trans {F G H : Nat → Prop} {a b c : World} (h : Mv F G a b) (k : Mv G H b c) : Mv F H a c :=
  ⟨k.os.trans h.os, k.tape.trans h.tape, k.output.trans h.output, Nat.le_trans h.size k.size,
    fun i hi hf => (k.block i (Nat.lt_of_lt_of_le hi h.size) (fun hg => (h.foot i hg).elim hf (fun h2 => absurd hi (by omega)))).trans (h.block i hi hf),
    fun i hi => (k.foot i hi).elim (h.foot i) (fun h2 => .inr (Nat.le_trans h.size h2))⟩
theorem Mv.below {F F' : Nat → Prop} {w w' : World} (h : Mv F F' w w') {B : Nat} (hB : B ≤ w.heap.size) (hF : ∀ k, F k → B ≤ k) : Below B w w' :=
  ⟨h.os, h.tape, h.output, h.size, fun k hk => h.block k (by omega) (fun hf => absurd (hF k hf) (by omega))⟩
theorem Mv.of_below {F : Nat → Prop} {w w' : World} (h : Below w.heap.size w w') : Mv F F w w' :=
  ⟨h.os, h.tape, h.output, h.size, fun k hk _ => h.block k hk, fun _ hk => .inl hk⟩

/-- a bag: a struct of a slice and a count -/
structure Bag (T base : Nat) (w : World) (b : Nat) (v : Value) (l : List Dg) (s : Int) : Prop where
  blk : w.heap[b]? = some (.cells #[v, .int .i64 s] T (0, 0))
  low : base ≤ b
  row : w.ownsRow base 46 6 v l.length (dcs l)
  apt : v.ownBlock ≠ some b
/-- the blocks of a bag -/
def Ft (b : Nat) (v : Value) (k : Nat) : Prop := k = b ∨ v.ownBlock = some k

section
variable {T base : Nat} {w : World} {b : Nat} {v : Value} {l : List Dg} {s : Int}
theorem Bag.lt (h : Bag T base w b v l s) : b < w.heap.size := lt_of_block h.blk
theorem Bag.c0 (h : Bag T base w b v l s) : w.cell? ⟨b, 0, none⟩ = some v := by have := h.blk; simp [World.cell?, this]
theorem Bag.c1 (h : Bag T base w b v l s) : w.cell? ⟨b, 1, none⟩ = some (.int .i64 s) := by have := h.blk; simp [World.cell?, this]
theorem Bag.z (h : Bag T base w b v l s) (k : Nat) : w.frozen? ⟨b, k, none⟩ = false := by have := h.blk; simp [World.frozen?, this]
theorem Bag.ftlt (h : Bag T base w b v l s) : ∀ k, Ft b v k → base ≤ k ∧ k < w.heap.size := by
  rintro k (rfl | hk)
  · exact ⟨h.low, h.lt⟩
  · exact h.row.lt k hk
theorem Bag.keep {w' : World} (h : Bag T base w b v l s) (hs : ∀ k, Ft b v k → w'.heap[k]? = w.heap[k]?) : Bag T base w' b v l s := by
  refine ⟨(hs b (.inl rfl)).trans h.blk, h.low, ?_, h.apt⟩
  refine ⟨h.row.1, ?_⟩
  rcases h.row.2 with h1 | ⟨g, cap, cur, rfl, hb, hg, h2⟩
  · exact .inl h1
  · exact .inr ⟨g, cap, cur, rfl, hb, (hs g (.inr rfl)).trans hg, h2⟩
theorem Bag.below {w' : World} (h : Bag T base w b v l s) (hb : Below w.heap.size w w') : Bag T base w' b v l s :=
  h.keep fun k hk => hb.block k (h.ftlt k hk).2
theorem Bag.mv {w' : World} {F F' : Nat → Prop} (h : Bag T base w b v l s) (hm : Mv F F' w w') (ha : ∀ k, Ft b v k → ¬ F k) : Bag T base w' b v l s :=
  h.keep fun k hk => hm.block k (h.ftlt k hk).2 (ha k hk)
theorem Bag.form (h : Bag T base w b v l s) : ∃ ad cap, v = .slice ad l.length cap ∧ l.length ≤ cap ∧ cap ≤ 9223372036854775807 ∧ (0 < l.length → ∃ g, ad = some ⟨g, 0, none⟩) := by
  rcases h.row.2 with ⟨rfl, hn⟩ | ⟨g, cap, cur, rfl, _, _, h1, h2, _⟩
  · exact ⟨none, 0, by rw [hn], by omega, by omega, fun h => absurd h (by omega)⟩
  · exact ⟨_, cap, rfl, h1, by unfold maxLen at h2; omega, fun _ => ⟨g, rfl⟩⟩
theorem Bag.cell {g cap i k : Nat} (h : Bag T base w b (.slice (some ⟨g, 0, none⟩) l.length cap) l s) (hi : i < l.length) (hk : k < 6) : w.cell? ⟨g, i * 6 + k, none⟩ = (l[i]).cs[k]? := by
  have h1 := dcs_get l i k hi hk
  have h2 : ∃ u, (l[i]).cs[k]? = some u := ⟨_, List.getElem?_eq_getElem (show k < 6 from hk)⟩
  obtain ⟨u, hu⟩ := h2
  rw [hu] at h1 ⊢
  have := h.row.cells (g := g) rfl (i * 6 + k) u h1
  rw [Addr.add_lit, Nat.zero_add] at this
  exact this
theorem Bag.six {g cap i : Nat} (h : Bag T base w b (.slice (some ⟨g, 0, none⟩) l.length cap) l s) (hi : i < l.length) :
    w.cell? ⟨g, i * 6, none⟩ = some (.int .i64 (l[i]).num) ∧ w.cell? ⟨g, i * 6 + 1, none⟩ = some (.int .i64 (l[i]).fn) ∧ w.cell? ⟨g, i * 6 + 2, none⟩ = some (.int .i64 (l[i]).fl) ∧
    w.cell? ⟨g, i * 6 + 3, none⟩ = some (.int .i64 (l[i]).tn) ∧ w.cell? ⟨g, i * 6 + 4, none⟩ = some (.int .i64 (l[i]).tl) ∧ w.cell? ⟨g, i * 6 + 5, none⟩ = some (.string (l[i]).data) :=
  ⟨h.cell hi (k := 0) (by decide), h.cell hi (k := 1) (by decide), h.cell hi (k := 2) (by decide), h.cell hi (k := 3) (by decide), h.cell hi (k := 4) (by decide), h.cell hi (k := 5) (by decide)⟩
end

set_option maxHeartbeats 400000 in
theorem new_any (w : World) : Calls Try.prog 7 #[] w fun e w' => e = .returned (.pointer (some ⟨w.heap.size, 0, none⟩)) ∧ w' = w.alloc (.cells #[.slice none 0 0, .int .i64 0] 58 (0, 0)) := by
  go_enter Try.func7, Try.ntmps7
  go_wp2
  go_ret
  exact ⟨rfl, rfl⟩
theorem Bag.new (T : Nat) (w : World) (base : Nat) (h : base ≤ w.heap.size) : Bag T base (w.alloc (.cells #[.slice none 0 0, .int .i64 0] T (0, 0))) w.heap.size (.slice none 0 0) [] 0 :=
  ⟨heap_alloc_new w _, h, World.ownsRow_nil _ _ _ _, by simp [Value.ownBlock]⟩

set_option maxHeartbeats 400000 in
theorem len_any {base : Nat} {w : World} {b : Nat} {v : Value} {l : List Dg} {s : Int} (h : Bag 58 base w b v l s) :
    Calls Try.prog 18 #[.pointer (some ⟨b, 0, none⟩)] w fun e w' => e = .returned (.int .i64 (l.length : Int)) ∧ w' = w := by
  obtain ⟨ad, cap, hv, _⟩ := h.form
  have c0 := h.c0
  rw [hv] at c0
  clear hv
  go_enter Try.func18, Try.ntmps18
  go_wp2
  go_ret
  exact ⟨rfl, rfl⟩
set_option maxHeartbeats 400000 in
theorem sent_any {base : Nat} {w : World} {b : Nat} {v : Value} {l : List Dg} {s : Int} (h : Bag 58 base w b v l s) :
    Calls Try.prog 20 #[.pointer (some ⟨b, 0, none⟩)] w fun e w' => e = .returned (.int .i64 s) ∧ w' = w := by
  have c1 := h.c1
  go_enter Try.func20, Try.ntmps20
  go_wp2
  go_ret
  exact ⟨rfl, rfl⟩
end Go.Proofs.Ytnbmgddkaclneaa
