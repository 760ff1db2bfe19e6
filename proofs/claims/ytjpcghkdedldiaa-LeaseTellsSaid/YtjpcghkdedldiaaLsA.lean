import Derived.Test.YtjpcghkdedldiaaRows
import Derived.WalkKit
import Derived.WalkSpells
import Derived.WalkLawsBesides
import Derived.BigQuiet
import Derived.BigRegion
import Derived.Deep.Cut
import Derived.Deep.AppendLies
import Derived.Deep.RegionLaw
import Derived.Deep.RegionHeld3
import Derived.Laws.StructEq
import Derived.Laws.ResultCell
import Derived.Laws.MakeOwn
import Derived.Maps.RangeWalk
import Derived.RangeFuncNested
import Derived.RangeFuncBound
import Derived.RangeFuncCalls
import Derived.RangeFuncLeaves
import Derived.Shelf.Abstract
import Derived.Shelf.RegionOpen
import Derived.OwnWalkIn
import Derived.TacticsInMore
import Derived.LoopNIn
import Derived.LoopIn
import Derived.Sort.QuietIn
import Derived.Laws.CopyOwn
import Derived.Lib.SliceRun
namespace Go.Proofs.Ytjpcghkdedldiaa
open Go.RowKit

theorem hide {p : Prop} (h : p) : Hid p := h
/-- a lease -/
structure Lz where
  job : Int
  bdg : Int
  node : Int
  life : Int
  left : Int
  deriving DecidableEq
/-- its cells -/
def Lz.cs (d : Lz) : List Value := [.int .i64 d.job, .int .i64 d.bdg, .int .i64 d.node, .int .i64 d.life, .int .i64 d.left]
/-- as a value -/
abbrev Lz.val (d : Lz) : Value := .agg #[.int .i64 d.job, .int .i64 d.bdg, .int .i64 d.node, .int .i64 d.life, .int .i64 d.left]
abbrev Lz.obj (d : Lz) : Obj := .cells #[.int .i64 d.job, .int .i64 d.bdg, .int .i64 d.node, .int .i64 d.life, .int .i64 d.left] 54 (0, 0)
def lz0 : Lz := ⟨0, 0, 0, 0, 0⟩
theorem Lz.val_inj {a b : Lz} (h : a.val = b.val) : a = b := by
  cases a; cases b
  simp only [Lz.val, Value.agg.injEq, Array.mk.injEq, List.cons.injEq, Value.int.injEq, true_and, and_true] at h
  obtain ⟨h1, h2, h3, h4, h5⟩ := h
  subst h1; subst h2; subst h3; subst h4; subst h5; rfl
/-- the cells of rows -/
def lcs : List Lz → List Value
  | [] => []
  | d :: l => d.cs ++ lcs l
theorem lcs_len (l : List Lz) : (lcs l).length = l.length * 5 := by
  induction l with
  | nil => rfl
  | cons d l ih => simp only [lcs, List.length_append, ih, List.length_cons, Nat.add_mul]; simp [Lz.cs]; omega
theorem lcs_append (l m : List Lz) : lcs (l ++ m) = lcs l ++ lcs m := by
  induction l with
  | nil => rfl
  | cons d l ih => simp only [List.cons_append, lcs, ih, List.append_assoc]
theorem lcs_one (d : Lz) : lcs [d] = d.cs := by simp [lcs]
theorem lcs_take (l : List Lz) (k : Nat) : (lcs l).take (k * 5) = lcs (l.take k) := by
  induction l generalizing k with
  | nil => simp [lcs]
  | cons d l ih =>
    cases k with
    | zero => simp [lcs]
    | succ k =>
      have h6 : (Lz.cs d).length = 5 := rfl
      simp only [List.take_succ_cons, lcs, List.take_append, h6, ← ih]
      rw [List.take_of_length_le (by rw [h6]; omega), show (k + 1) * 5 - 5 = k * 5 by omega]
theorem lcs_drop (l : List Lz) (k : Nat) : (lcs l).drop (k * 5) = lcs (l.drop k) := by
  induction l generalizing k with
  | nil => simp [lcs]
  | cons d l ih =>
    cases k with
    | zero => simp
    | succ k =>
      have h6 : (Lz.cs d).length = 5 := rfl
      simp only [List.drop_succ_cons, lcs, List.drop_append, h6, ← ih]
      rw [List.drop_of_length_le (by rw [h6]; omega), show (k + 1) * 5 - 5 = k * 5 by omega, List.nil_append]
theorem lcs_get (l : List Lz) (i k : Nat) (hi : i < l.length) (hk : k < 5) : (lcs l)[i * 5 + k]? = (l[i]).cs[k]? := by
  have h := congrArg (fun x => x[k]?) (lcs_drop l i)
  simp only [List.getElem?_drop] at h
  rw [h, List.drop_eq_getElem_cons hi]
  simp only [lcs]
  rw [List.getElem?_append_left (by show k < 5; exact hk)]
theorem lcs_one_cell (l : List Lz) : ∀ u ∈ lcs l, u.oneCell' = true := by
  induction l with
  | nil => intro u hu; simp [lcs] at hu
  | cons d l ih =>
    intro u hu
    simp only [lcs, List.mem_append] at hu
    rcases hu with hu | hu
    · simp [Lz.cs] at hu
      rcases hu with rfl | rfl | rfl | rfl | rfl <;> rfl
    · exact ih u hu
theorem lcs_set (l : List Lz) (i : Nat) (d : Lz) (hi : i < l.length) : lcs (l.set i d) = (lcs l).take (i * 5) ++ (d.cs ++ (lcs l).drop (i * 5 + 5)) := by
  rw [List.set_eq_take_append_cons_drop, if_pos hi, lcs_append, lcs_take, show i * 5 + 5 = (i + 1) * 5 by omega, lcs_drop]
  rfl

/-- rows that are read -/
structure Rs (w : World) (ad : Option Addr) (ab ao : Nat) (L : List Lz) : Prop where
  at_ : 0 < L.length → ad = some ⟨ab, ao, none⟩
  c : ∀ i (h : i < L.length) k, k < 5 → w.cell? ⟨ab, ao + i * 5 + k, none⟩ = (L[i]).cs[k]?
theorem Rs.lt {w : World} {ad : Option Addr} {ab ao : Nat} {L : List Lz} (h : Rs w ad ab ao L) (h0 : 0 < L.length) : ab < w.heap.size := World.block_lt_of_cell? _ _ (h.c 0 h0 0 (by decide))
theorem Rs.keep {w w' : World} {ad : Option Addr} {ab ao : Nat} {L : List Lz} (h : Rs w ad ab ao L) (hk : 0 < L.length → w'.heap[ab]? = w.heap[ab]?) : Rs w' ad ab ao L :=
  ⟨h.at_, fun i hi k h8 => (World.cell?_of_block (hk (by omega))).trans (h.c i hi k h8)⟩
theorem Rs.below {w w' : World} {ad : Option Addr} {ab ao : Nat} {L : List Lz} (h : Rs w ad ab ao L) (hb : Below w.heap.size w w') : Rs w' ad ab ao L := h.keep fun h0 => hb.block _ (h.lt h0)
theorem Rs.eight {w : World} {ad : Option Addr} {ab ao : Nat} {L : List Lz} (h : Rs w ad ab ao L) {i : Nat} (hi : i < L.length) :
    w.cell? ⟨ab, ao + i * 5, none⟩ = some (.int .i64 (L[i]).job) ∧ w.cell? ⟨ab, ao + i * 5 + 1, none⟩ = some (.int .i64 (L[i]).bdg) ∧ w.cell? ⟨ab, ao + i * 5 + 2, none⟩ = some (.int .i64 (L[i]).node) ∧ w.cell? ⟨ab, ao + i * 5 + 3, none⟩ = some (.int .i64 (L[i]).life) ∧
    w.cell? ⟨ab, ao + i * 5 + 4, none⟩ = some (.int .i64 (L[i]).left) :=
  ⟨h.c i hi 0 (by decide), h.c i hi 1 (by decide), h.c i hi 2 (by decide), h.c i hi 3 (by decide), h.c i hi 4 (by decide)⟩
theorem Rs.eight0 {w : World} {ad : Option Addr} {ab : Nat} {L : List Lz} (h : Rs w ad ab 0 L) {i : Nat} (hi : i < L.length) :
    w.cell? ⟨ab, i * 5, none⟩ = some (.int .i64 (L[i]).job) ∧ w.cell? ⟨ab, i * 5 + 1, none⟩ = some (.int .i64 (L[i]).bdg) ∧ w.cell? ⟨ab, i * 5 + 2, none⟩ = some (.int .i64 (L[i]).node) ∧ w.cell? ⟨ab, i * 5 + 3, none⟩ = some (.int .i64 (L[i]).life) ∧
    w.cell? ⟨ab, i * 5 + 4, none⟩ = some (.int .i64 (L[i]).left) := by
  have := h.eight hi
  simpa using this
/-- rows of one's own are read -/
theorem Rs.own {w : World} {B : Nat} {L : List Lz} {ad : Option Addr} {cap : Nat} (h : w.ownsRow B 54 5 (.slice ad L.length cap) L.length (lcs L)) : ∃ ab, Rs w ad ab 0 L ∧ (ad = none ∨ ad = some ⟨ab, 0, none⟩) ∧ L.length ≤ cap := by
  rcases h.2 with ⟨h1, hn⟩ | ⟨g, cap', cur, h1, hb, hg, hc, hm, hs, ht⟩
  · injection h1 with h1 h2 h3
    subst h1
    exact ⟨0, ⟨fun h => absurd h (by omega), fun i hi => absurd hi (by omega)⟩, .inl rfl, by omega⟩
  · injection h1 with h1 h2 h3
    subst h1; subst h3
    refine ⟨g, ⟨fun _ => rfl, fun i hi k hk => ?_⟩, .inr rfl, hc⟩
    have h1 := lcs_get L i k hi hk
    obtain ⟨u, hu⟩ : ∃ u, (L[i]).cs[k]? = some u := ⟨_, List.getElem?_eq_getElem (show k < 5 from hk)⟩
    rw [hu] at h1 ⊢
    have := h.cells (g := g) rfl (i * 5 + k) u h1
    rw [Addr.add_lit, Nat.zero_add] at this
    rw [Nat.zero_add]
    exact this

/-- '==' of two leases -/
theorem guardL (op : BinOp) (x y : Operand) (xs ys : Array Value) (w : World) : (eqGuard op 54 x y (.agg xs) (.agg ys)).run Try.prog w = .ok () w := run_eqGuard_agg w op _ x y xs ys (by kernel_rfl)
theorem eqL_any (a b : Lz) (w : World) : (Op.equalIn 10000 54 a.val b.val).run Try.prog w = .ok (decide (a = b)) w := by
  have u3 := Try.underlying3
  have a3 := Try.isAgg3
  have z3 := Try.sizeOf3
  have u33 := Try.underlying36
  have a33 := Try.isAgg36
  have z33 := Try.sizeOf36
  have hS : Try.prog.underlying 54 = some (.struct (Try.prog.fieldsOf 54)) := by kernel_rfl
  have hp : Try.prog.stoodInHeld 54 = false := by kernel_rfl
  have hS2 : Try.prog.underlying 36 = some (.struct (Try.prog.fieldsOf 36)) := by kernel_rfl
  have hp2 : Try.prog.stoodInHeld 36 = false := by kernel_rfl
  obtain ⟨a0, a1, a2, b3, a4⟩ := a
  obtain ⟨b0, b1, b2, c3, b4⟩ := b
  have he : decide ((⟨a0, a1, a2, b3, a4⟩ : Lz) = ⟨b0, b1, b2, c3, b4⟩) = (a0 == b0 && (a1 == b1 && (a2 == b2 && (b3 == c3 && a4 == b4)))) := by
    rw [Bool.eq_iff_iff]
    simp
  rw [he, show (10000 : Nat) = 9999 + 1 from rfl, run_equalIn_agg w 9999 54 _ _ hS hp]
  simp only [Program.fieldsOf, Try.underlying54]
  clear he
  by_cases h0 : a0 = b0
  · subst h0
    by_cases h1 : a1 = b1
    · subst h1
      by_cases h2 : a2 = b2
      · subst h2
        by_cases h3 : b3 = c3
        · subst h3
          by_cases h4 : a4 = b4
          · subst h4; go_simp
          · have e7 : (a4 == b4) = false := by simpa using h4
            go_simp
        · have e7 : (b3 == c3) = false := by simpa using h3
          go_simp
      · have e7 : (a2 == b2) = false := by simpa using h2
        go_simp
    · have e7 : (a1 == b1) = false := by simpa using h1
      go_simp
  · have e7 : (a0 == b0) = false := by simpa using h0
    go_simp
theorem eqlL_run (a b : Lz) (w : World) : (binOp .eql 54 a.val b.val).run Try.prog w = .ok (.bool (decide (a = b))) w := by
  rw [run_eql_struct, eqL_any]
  rfl
theorem neqL_run (a b : Lz) (w : World) : (binOp .neq 54 a.val b.val).run Try.prog w = .ok (.bool (!decide (a = b))) w := by
  rw [run_neq_struct, eqL_any]
  rfl
end Go.Proofs.Ytjpcghkdedldiaa
