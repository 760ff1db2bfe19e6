import Derived.Test.YtkchddphmkgilaaRows
import Derived.WalkKit
import Derived.WalkSpells
import Derived.WalkLawsBesides
import Derived.BigQuiet
import Derived.BigRegion
import Derived.Deep.Cut
import Derived.Deep.AppendLies
import Derived.Deep.RegionLaw
import Derived.Deep.RegionHeld3
import Derived.Laws.StructEq
import Derived.Laws.ResultCell
import Derived.Laws.MakeOwn
import Derived.Laws.CopyOwn
import Derived.Lib.SliceRun
namespace Go.Proofs.Ytkchddphmkgilaa
open Go.RowKit

theorem hide {p : Prop} (h : p) : Hid p := h
/-- a row -/
structure Rr where
  job : Int
  st : Int
  att : Int
  bdg : Int
  node : Int
  life : Int
  code : Int
  bits : Int
  deriving DecidableEq
/-- its cells -/
def Rr.cs (d : Rr) : List Value := [.int .i64 d.job, .int .i64 d.st, .int .i64 d.att, .int .i64 d.bdg, .int .i64 d.node, .int .i64 d.life, .int .i64 d.code, .int .u64 d.bits]
/-- as a value -/
abbrev Rr.val (d : Rr) : Value := .agg #[.int .i64 d.job, .int .i64 d.st, .int .i64 d.att, .int .i64 d.bdg, .int .i64 d.node, .int .i64 d.life, .int .i64 d.code, .int .u64 d.bits]
abbrev Rr.obj (d : Rr) : Obj := .cells #[.int .i64 d.job, .int .i64 d.st, .int .i64 d.att, .int .i64 d.bdg, .int .i64 d.node, .int .i64 d.life, .int .i64 d.code, .int .u64 d.bits] 30 (0, 0)
def rr0 : Rr := ⟨0, 0, 0, 0, 0, 0, 0, 0⟩
/-- the cells of rows -/
def rcs : List Rr → List Value
  | [] => []
  | d :: l => d.cs ++ rcs l
theorem rcs_len (l : List Rr) : (rcs l).length = l.length * 8 := by
  induction l with
  | nil => rfl
  | cons d l ih => simp only [rcs, List.length_append, ih, List.length_cons, Nat.add_mul]; simp [Rr.cs]; omega
theorem rcs_append (l m : List Rr) : rcs (l ++ m) = rcs l ++ rcs m := by
  induction l with
  | nil => rfl
  | cons d l ih => simp only [List.cons_append, rcs, ih, List.append_assoc]
theorem rcs_one (d : Rr) : rcs [d] = d.cs := by simp [rcs]
theorem rcs_take (l : List Rr) (k : Nat) : (rcs l).take (k * 8) = rcs (l.take k) := by
  induction l generalizing k with
  | nil => simp [rcs]
  | cons d l ih =>
    cases k with
    | zero => simp [rcs]
    | succ k =>
      have h6 : (Rr.cs d).length = 8 := rfl
      simp only [List.take_succ_cons, rcs, List.take_append, h6, ← ih]
      rw [List.take_of_length_le (by rw [h6]; omega), show (k + 1) * 8 - 8 = k * 8 by omega]
theorem rcs_drop (l : List Rr) (k : Nat) : (rcs l).drop (k * 8) = rcs (l.drop k) := by
  induction l generalizing k with
  | nil => simp [rcs]
  | cons d l ih =>
    cases k with
    | zero => simp
    | succ k =>
      have h6 : (Rr.cs d).length = 8 := rfl
      simp only [List.drop_succ_cons, rcs, List.drop_append, h6, ← ih]
      rw [List.drop_of_length_le (by rw [h6]; omega), show (k + 1) * 8 - 8 = k * 8 by omega, List.nil_append]
theorem rcs_get (l : List Rr) (i k : Nat) (hi : i < l.length) (hk : k < 8) : (rcs l)[i * 8 + k]? = (l[i]).cs[k]? := by
  have h := congrArg (fun x => x[k]?) (rcs_drop l i)
  simp only [List.getElem?_drop] at h
  rw [h, List.drop_eq_getElem_cons hi]
  simp only [rcs]
  rw [List.getElem?_append_left (by show k < 8; exact hk)]
theorem rcs_one_cell (l : List Rr) : ∀ u ∈ rcs l, u.oneCell' = true := by
  induction l with
  | nil => intro u hu; simp [rcs] at hu
  | cons d l ih =>
    intro u hu
    simp only [rcs, List.mem_append] at hu
    rcases hu with hu | hu
    · simp [Rr.cs] at hu
      rcases hu with rfl | rfl | rfl | rfl | rfl | rfl | rfl | rfl <;> rfl
    · exact ih u hu
theorem rcs_set (l : List Rr) (i : Nat) (d : Rr) (hi : i < l.length) : rcs (l.set i d) = (rcs l).take (i * 8) ++ (d.cs ++ (rcs l).drop (i * 8 + 8)) := by
  rw [List.set_eq_take_append_cons_drop, if_pos hi, rcs_append, rcs_take, show i * 8 + 8 = (i + 1) * 8 by omega, rcs_drop]
  rfl

/-- rows that are read -/
structure Rs (w : World) (ad : Option Addr) (ab ao : Nat) (L : List Rr) : Prop where
  at_ : 0 < L.length → ad = some ⟨ab, ao, none⟩
  c : ∀ i (h : i < L.length) k, k < 8 → w.cell? ⟨ab, ao + i * 8 + k, none⟩ = (L[i]).cs[k]?
theorem Rs.lt {w : World} {ad : Option Addr} {ab ao : Nat} {L : List Rr} (h : Rs w ad ab ao L) (h0 : 0 < L.length) : ab < w.heap.size := World.block_lt_of_cell? _ _ (h.c 0 h0 0 (by decide))
theorem Rs.keep {w w' : World} {ad : Option Addr} {ab ao : Nat} {L : List Rr} (h : Rs w ad ab ao L) (hk : 0 < L.length → w'.heap[ab]? = w.heap[ab]?) : Rs w' ad ab ao L :=
  ⟨h.at_, fun i hi k h8 => (World.cell?_of_block (hk (by omega))).trans (h.c i hi k h8)⟩
theorem Rs.below {w w' : World} {ad : Option Addr} {ab ao : Nat} {L : List Rr} (h : Rs w ad ab ao L) (hb : Below w.heap.size w w') : Rs w' ad ab ao L := h.keep fun h0 => hb.block _ (h.lt h0)
theorem Rs.eight {w : World} {ad : Option Addr} {ab ao : Nat} {L : List Rr} (h : Rs w ad ab ao L) {i : Nat} (hi : i < L.length) :
    w.cell? ⟨ab, ao + i * 8, none⟩ = some (.int .i64 (L[i]).job) ∧ w.cell? ⟨ab, ao + i * 8 + 1, none⟩ = some (.int .i64 (L[i]).st) ∧ w.cell? ⟨ab, ao + i * 8 + 2, none⟩ = some (.int .i64 (L[i]).att) ∧ w.cell? ⟨ab, ao + i * 8 + 3, none⟩ = some (.int .i64 (L[i]).bdg) ∧
    w.cell? ⟨ab, ao + i * 8 + 4, none⟩ = some (.int .i64 (L[i]).node) ∧ w.cell? ⟨ab, ao + i * 8 + 5, none⟩ = some (.int .i64 (L[i]).life) ∧ w.cell? ⟨ab, ao + i * 8 + 6, none⟩ = some (.int .i64 (L[i]).code) ∧ w.cell? ⟨ab, ao + i * 8 + 7, none⟩ = some (.int .u64 (L[i]).bits) :=
  ⟨h.c i hi 0 (by decide), h.c i hi 1 (by decide), h.c i hi 2 (by decide), h.c i hi 3 (by decide), h.c i hi 4 (by decide), h.c i hi 5 (by decide), h.c i hi 6 (by decide), h.c i hi 7 (by decide)⟩
theorem Rs.eight0 {w : World} {ad : Option Addr} {ab : Nat} {L : List Rr} (h : Rs w ad ab 0 L) {i : Nat} (hi : i < L.length) :
    w.cell? ⟨ab, i * 8, none⟩ = some (.int .i64 (L[i]).job) ∧ w.cell? ⟨ab, i * 8 + 1, none⟩ = some (.int .i64 (L[i]).st) ∧ w.cell? ⟨ab, i * 8 + 2, none⟩ = some (.int .i64 (L[i]).att) ∧ w.cell? ⟨ab, i * 8 + 3, none⟩ = some (.int .i64 (L[i]).bdg) ∧
    w.cell? ⟨ab, i * 8 + 4, none⟩ = some (.int .i64 (L[i]).node) ∧ w.cell? ⟨ab, i * 8 + 5, none⟩ = some (.int .i64 (L[i]).life) ∧ w.cell? ⟨ab, i * 8 + 6, none⟩ = some (.int .i64 (L[i]).code) ∧ w.cell? ⟨ab, i * 8 + 7, none⟩ = some (.int .u64 (L[i]).bits) := by
  have := h.eight hi
  simpa using this
/-- rows of one's own are read -/
theorem Rs.own {w : World} {B : Nat} {L : List Rr} {ad : Option Addr} {cap : Nat} (h : w.ownsRow B 30 8 (.slice ad L.length cap) L.length (rcs L)) : ∃ ab, Rs w ad ab 0 L ∧ (ad = none ∨ ad = some ⟨ab, 0, none⟩) ∧ L.length ≤ cap := by
  rcases h.2 with ⟨h1, hn⟩ | ⟨g, cap', cur, h1, hb, hg, hc, hm, hs, ht⟩
  · injection h1 with h1 h2 h3
    subst h1
    exact ⟨0, ⟨fun h => absurd h (by omega), fun i hi => absurd hi (by omega)⟩, .inl rfl, by omega⟩
  · injection h1 with h1 h2 h3
    subst h1; subst h3
    refine ⟨g, ⟨fun _ => rfl, fun i hi k hk => ?_⟩, .inr rfl, hc⟩
    have h1 := rcs_get L i k hi hk
    obtain ⟨u, hu⟩ : ∃ u, (L[i]).cs[k]? = some u := ⟨_, List.getElem?_eq_getElem (show k < 8 from hk)⟩
    rw [hu] at h1 ⊢
    have := h.cells (g := g) rfl (i * 8 + k) u h1
    rw [Addr.add_lit, Nat.zero_add] at this
    rw [Nat.zero_add]
    exact this

/-- '==' of two rows -/
theorem guardR (op : BinOp) (x y : Operand) (xs ys : Array Value) (w : World) : (eqGuard op 30 x y (.agg xs) (.agg ys)).run Try.prog w = .ok () w := run_eqGuard_agg w op _ x y xs ys (by kernel_rfl)
theorem eqR_any (a b : Rr) (w : World) : (Op.equalIn 10000 30 a.val b.val).run Try.prog w = .ok (decide (a = b)) w := by
  have u3 := Try.underlying3
  have a3 := Try.isAgg3
  have z3 := Try.sizeOf3
  have u9 := Try.underlying26
  have a9 := Try.isAgg26
  have z9 := Try.sizeOf26
  have u33 := Try.underlying25
  have a33 := Try.isAgg25
  have z33 := Try.sizeOf25
  have u34 := Try.underlying28
  have a34 := Try.isAgg28
  have z34 := Try.sizeOf28
  have hS : Try.prog.underlying 30 = some (.struct (Try.prog.fieldsOf 30)) := by kernel_rfl
  have hp : Try.prog.stoodInHeld 30 = false := by kernel_rfl
  have hS2 : Try.prog.underlying 25 = some (.struct (Try.prog.fieldsOf 25)) := by kernel_rfl
  have hp2 : Try.prog.stoodInHeld 25 = false := by kernel_rfl
  have hS3 : Try.prog.underlying 28 = some (.struct (Try.prog.fieldsOf 28)) := by kernel_rfl
  have hp3 : Try.prog.stoodInHeld 28 = false := by kernel_rfl
  obtain ⟨a0, a1, a2, b3, a4, a5, a6, a7⟩ := a
  obtain ⟨b0, b1, b2, c3, b4, b5, b6, b7⟩ := b
  have he : decide ((⟨a0, a1, a2, b3, a4, a5, a6, a7⟩ : Rr) = ⟨b0, b1, b2, c3, b4, b5, b6, b7⟩) = (a0 == b0 && (a1 == b1 && (a2 == b2 && (b3 == c3 && (a4 == b4 && (a5 == b5 && (a6 == b6 && a7 == b7))))))) := by
    rw [Bool.eq_iff_iff]
    simp
  rw [he, show (10000 : Nat) = 9999 + 1 from rfl, run_equalIn_agg w 9999 30 _ _ hS hp]
  simp only [Program.fieldsOf, Try.underlying30]
  clear he
  by_cases h0 : a0 = b0
  · subst h0
    by_cases h1 : a1 = b1
    · subst h1
      by_cases h2 : a2 = b2
      · subst h2
        by_cases h3 : b3 = c3
        · subst h3
          by_cases h4 : a4 = b4
          · subst h4
            by_cases h5 : a5 = b5
            · subst h5
              by_cases h6 : a6 = b6
              · subst h6
                by_cases h7 : a7 = b7
                · subst h7; go_simp
                · have e7 : (a7 == b7) = false := by simpa using h7
                  go_simp
              · have e7 : (a6 == b6) = false := by simpa using h6
                go_simp
            · have e7 : (a5 == b5) = false := by simpa using h5
              go_simp
          · have e7 : (a4 == b4) = false := by simpa using h4
            go_simp
        · have e7 : (b3 == c3) = false := by simpa using h3
          go_simp
      · have e7 : (a2 == b2) = false := by simpa using h2
        go_simp
    · have e7 : (a1 == b1) = false := by simpa using h1
      go_simp
  · have e7 : (a0 == b0) = false := by simpa using h0
    go_simp
end Go.Proofs.Ytkchddphmkgilaa
