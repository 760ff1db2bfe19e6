import Derived.Test.YtapcmmljdpallaaWrL
import Derived.WalkKit
import Derived.WalkSpells
import Derived.WalkLawsBesides
import Derived.BigQuiet
import Derived.BigRegion
import Derived.Deep.Cut
import Derived.Deep.AppendLies
import Derived.Deep.RegionLaw
import Derived.Deep.RegionHeld3
import Derived.Laws.StructEq
import Derived.Laws.ResultCell
import Derived.Laws.MakeOwn
import Derived.Maps.RangeWalk
import Derived.RangeFuncNested
import Derived.RangeFuncBound
import Derived.RangeFuncCalls
import Derived.RangeFuncLeaves
import Derived.Shelf.Abstract
import Derived.Laws.EntriesVeiled
import Derived.Deep.SlicePairs
import Derived.Lib.SmallJoins
import Derived.Sort.MapsRangeIn
import Derived.Shelf.RegionOpen
import Derived.OwnWalkIn
import Derived.TacticsInMore
import Derived.LoopNIn
import Derived.LoopIn
import Derived.Sort.QuietIn
import Derived.Laws.CopyOwn
import Derived.Lib.SliceRun
namespace Go.Proofs.Ytapcmmljdpallaa.K
open Go.RowKit

/-- an artefact, as it lies; its texts -/
structure Az where
  job : Int
  bdg : Int
  ad : Option Addr
  cap : Nat
  pcs : List ByteArray
  deriving DecidableEq
/-- its slice -/
abbrev Az.sl (d : Az) : Value := .slice d.ad d.pcs.length d.cap
/-- its cells -/
def Az.cs (d : Az) : List Value := [.int .i64 d.job, .int .i64 d.bdg, .slice d.ad d.pcs.length d.cap]
/-- as a value -/
abbrev Az.val (d : Az) : Value := .agg #[.int .i64 d.job, .int .i64 d.bdg, .slice d.ad d.pcs.length d.cap]
abbrev Az.obj (d : Az) : Obj := .cells #[.int .i64 d.job, .int .i64 d.bdg, .slice d.ad d.pcs.length d.cap] 49 (0, 0)
def az0 : Az := ⟨0, 0, none, 0, []⟩
/-- texts as cells -/
def tcs (l : List ByteArray) : List Value := l.map Value.string
theorem tcs_len (l : List ByteArray) : (tcs l).length = l.length := by simp [tcs]
theorem tcs_snoc (l : List ByteArray) (s : ByteArray) : tcs (l ++ [s]) = tcs l ++ [.string s] := by simp [tcs]
theorem tcs_one (l : List ByteArray) : ∀ u ∈ tcs l, u.oneCell' = true := by
  intro u hu
  simp only [tcs, List.mem_map] at hu
  obtain ⟨s, _, rfl⟩ := hu
  rfl
/-- the cells of rows -/
def acs : List Az → List Value
  | [] => []
  | d :: l => d.cs ++ acs l
theorem acs_len (l : List Az) : (acs l).length = l.length * 3 := by
  induction l with
  | nil => rfl
  | cons d l ih => simp only [acs, List.length_append, ih, List.length_cons, Nat.add_mul]; simp [Az.cs]; omega
theorem acs_append (l m : List Az) : acs (l ++ m) = acs l ++ acs m := by
  induction l with
  | nil => rfl
  | cons d l ih => simp only [List.cons_append, acs, ih, List.append_assoc]
theorem acs_one (d : Az) : acs [d] = d.cs := by simp [acs]
theorem acs_take (l : List Az) (k : Nat) : (acs l).take (k * 3) = acs (l.take k) := by
  induction l generalizing k with
  | nil => simp [acs]
  | cons d l ih =>
    cases k with
    | zero => simp [acs]
    | succ k =>
      have h6 : (Az.cs d).length = 3 := rfl
      simp only [List.take_succ_cons, acs, List.take_append, h6, ← ih]
      rw [List.take_of_length_le (by rw [h6]; omega), show (k + 1) * 3 - 3 = k * 3 by omega]
theorem acs_drop (l : List Az) (k : Nat) : (acs l).drop (k * 3) = acs (l.drop k) := by
  induction l generalizing k with
  | nil => simp [acs]
  | cons d l ih =>
    cases k with
    | zero => simp
    | succ k =>
      have h6 : (Az.cs d).length = 3 := rfl
      simp only [List.drop_succ_cons, acs, List.drop_append, h6, ← ih]
      rw [List.drop_of_length_le (by rw [h6]; omega), show (k + 1) * 3 - 3 = k * 3 by omega, List.nil_append]
theorem acs_get (l : List Az) (i k : Nat) (hi : i < l.length) (hk : k < 3) : (acs l)[i * 3 + k]? = (l[i]).cs[k]? := by
  have h := congrArg (fun x => x[k]?) (acs_drop l i)
  simp only [List.getElem?_drop] at h
  rw [h, List.drop_eq_getElem_cons hi]
  simp only [acs]
  rw [List.getElem?_append_left (by show k < 3; exact hk)]
theorem acs_one_cell (l : List Az) : ∀ u ∈ acs l, u.oneCell' = true := by
  induction l with
  | nil => intro u hu; simp [acs] at hu
  | cons d l ih =>
    intro u hu
    simp only [acs, List.mem_append] at hu
    rcases hu with hu | hu
    · simp [Az.cs] at hu
      rcases hu with rfl | rfl | rfl <;> rfl
    · exact ih u hu
theorem acs_set (l : List Az) (i : Nat) (d : Az) (hi : i < l.length) : acs (l.set i d) = (acs l).take (i * 3) ++ (d.cs ++ (acs l).drop (i * 3 + 3)) := by
  rw [List.set_eq_take_append_cons_drop, if_pos hi, acs_append, acs_take, show i * 3 + 3 = (i + 1) * 3 by omega, acs_drop]
  rfl

/-- rows that are read -/
structure Rs (w : World) (ad : Option Addr) (ab ao : Nat) (L : List Az) : Prop where
  at_ : 0 < L.length → ad = some ⟨ab, ao, none⟩
  c : ∀ i (h : i < L.length) k, k < 3 → w.cell? ⟨ab, ao + i * 3 + k, none⟩ = (L[i]).cs[k]?
theorem Rs.lt {w : World} {ad : Option Addr} {ab ao : Nat} {L : List Az} (h : Rs w ad ab ao L) (h0 : 0 < L.length) : ab < w.heap.size := World.block_lt_of_cell? _ _ (h.c 0 h0 0 (by decide))
theorem Rs.keep {w w' : World} {ad : Option Addr} {ab ao : Nat} {L : List Az} (h : Rs w ad ab ao L) (hk : 0 < L.length → w'.heap[ab]? = w.heap[ab]?) : Rs w' ad ab ao L :=
  ⟨h.at_, fun i hi k h8 => (World.cell?_of_block (hk (by omega))).trans (h.c i hi k h8)⟩
theorem Rs.below {w w' : World} {ad : Option Addr} {ab ao : Nat} {L : List Az} (h : Rs w ad ab ao L) (hb : Below w.heap.size w w') : Rs w' ad ab ao L := h.keep fun h0 => hb.block _ (h.lt h0)
theorem Rs.three {w : World} {ad : Option Addr} {ab ao : Nat} {L : List Az} (h : Rs w ad ab ao L) {i : Nat} (hi : i < L.length) :
    w.cell? ⟨ab, ao + i * 3, none⟩ = some (.int .i64 (L[i]).job) ∧ w.cell? ⟨ab, ao + i * 3 + 1, none⟩ = some (.int .i64 (L[i]).bdg) ∧ w.cell? ⟨ab, ao + i * 3 + 2, none⟩ = some (L[i]).sl :=
  ⟨h.c i hi 0 (by decide), h.c i hi 1 (by decide), h.c i hi 2 (by decide)⟩
theorem Rs.three0 {w : World} {ad : Option Addr} {ab : Nat} {L : List Az} (h : Rs w ad ab 0 L) {i : Nat} (hi : i < L.length) :
    w.cell? ⟨ab, i * 3, none⟩ = some (.int .i64 (L[i]).job) ∧ w.cell? ⟨ab, i * 3 + 1, none⟩ = some (.int .i64 (L[i]).bdg) ∧ w.cell? ⟨ab, i * 3 + 2, none⟩ = some (L[i]).sl := by
  have := h.three hi
  simpa using this
/-- rows of one's own are read -/
theorem Rs.own {w : World} {B : Nat} {L : List Az} {ad : Option Addr} {cap : Nat} (h : w.ownsRow B 49 3 (.slice ad L.length cap) L.length (acs L)) : ∃ ab, Rs w ad ab 0 L ∧ (ad = none ∨ ad = some ⟨ab, 0, none⟩) ∧ L.length ≤ cap := by
  rcases h.2 with ⟨h1, hn⟩ | ⟨g, cap', cur, h1, hb, hg, hc, hm, hs, ht⟩
  · injection h1 with h1 h2 h3
    subst h1
    exact ⟨0, ⟨fun h => absurd h (by omega), fun i hi => absurd hi (by omega)⟩, .inl rfl, by omega⟩
  · injection h1 with h1 h2 h3
    subst h1; subst h3
    refine ⟨g, ⟨fun _ => rfl, fun i hi k hk => ?_⟩, .inr rfl, hc⟩
    have h1 := acs_get L i k hi hk
    obtain ⟨u, hu⟩ : ∃ u, (L[i]).cs[k]? = some u := ⟨_, List.getElem?_eq_getElem (show k < 3 from hk)⟩
    rw [hu] at h1 ⊢
    have := h.cells (g := g) rfl (i * 3 + k) u h1
    rw [Addr.add_lit, Nat.zero_add] at this
    rw [Nat.zero_add]
    exact this

end Go.Proofs.Ytapcmmljdpallaa.K
