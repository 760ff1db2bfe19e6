import Derived.Test.YtfmanndadjdpbaaMgAN
import Derived.WalkKit
import Derived.WalkSpells
import Derived.WalkLawsBesides
import Derived.BigQuiet
import Derived.BigRegion
import Derived.Deep.Cut
import Derived.Deep.AppendLies
import Derived.Deep.RegionLaw
import Derived.Deep.RegionHeld3
import Derived.Laws.StructEq
import Derived.Laws.ResultCell
import Derived.Laws.MakeOwn
import Derived.Maps.RangeWalk
import Derived.RangeFuncNested
import Derived.RangeFuncBound
import Derived.RangeFuncCalls
import Derived.RangeFuncLeaves
import Derived.Shelf.Abstract
import Derived.Laws.EntriesVeiled
import Derived.Deep.SlicePairs
import Derived.Lib.SmallJoins
import Derived.Sort.MapsRangeIn
import Derived.Shelf.RegionOpen
import Derived.OwnWalkIn
import Derived.TacticsInMore
import Derived.LoopNIn
import Derived.LoopIn
import Derived.Sort.QuietIn
import Derived.Laws.CopyOwn
import Derived.Lib.SliceRun

section
namespace Go.Proofs.Ytfmanndadjdpbaa.K
open Go.RowKit

/-- an artefact, as it lies; its texts -/
structure Az where
  job : Int
  bdg : Int
  ad : Option Addr
  cap : Nat
  pcs : List ByteArray
  deriving DecidableEq
/-- its slice -/
abbrev Az.sl (d : Az) : Value := .slice d.ad d.pcs.length d.cap
/-- its cells -/
def Az.cs (d : Az) : List Value := [.int .i64 d.job, .int .i64 d.bdg, .slice d.ad d.pcs.length d.cap]
/-- as a value -/
abbrev Az.val (d : Az) : Value := .agg #[.int .i64 d.job, .int .i64 d.bdg, .slice d.ad d.pcs.length d.cap]
abbrev Az.obj (d : Az) : Obj := .cells #[.int .i64 d.job, .int .i64 d.bdg, .slice d.ad d.pcs.length d.cap] 40 (0, 0)
def az0 : Az := ⟨0, 0, none, 0, []⟩
/-- texts as cells -/
def tcs (l : List ByteArray) : List Value := l.map Value.string
theorem tcs_len (l : List ByteArray) : (tcs l).length = l.length := by simp [tcs]
theorem tcs_snoc (l : List ByteArray) (s : ByteArray) : tcs (l ++ [s]) = tcs l ++ [.string s] := by simp [tcs]
theorem tcs_one (l : List ByteArray) : ∀ u ∈ tcs l, u.oneCell' = true := by
  intro u hu
  simp only [tcs, List.mem_map] at hu
  obtain ⟨s, _, rfl⟩ := hu
  rfl
/-- the cells of rows -/
def acs : List Az → List Value
  | [] => []
  | d :: l => d.cs ++ acs l
theorem acs_len (l : List Az) : (acs l).length = l.length * 3 := by
  induction l with
  | nil => rfl
  | cons d l ih => simp only [acs, List.length_append, ih, List.length_cons, Nat.add_mul]; simp [Az.cs]; omega
theorem acs_append (l m : List Az) : acs (l ++ m) = acs l ++ acs m := by
  induction l with
  | nil => rfl
  | cons d l ih => simp only [List.cons_append, acs, ih, List.append_assoc]
theorem acs_one (d : Az) : acs [d] = d.cs := by simp [acs]
theorem acs_take (l : List Az) (k : Nat) : (acs l).take (k * 3) = acs (l.take k) := by
  induction l generalizing k with
  | nil => simp [acs]
  | cons d l ih =>
    cases k with
    | zero => simp [acs]
    | succ k =>
      have h6 : (Az.cs d).length = 3 := rfl
      simp only [List.take_succ_cons, acs, List.take_append, h6, ← ih]
      rw [List.take_of_length_le (by rw [h6]; omega), show (k + 1) * 3 - 3 = k * 3 by omega]
theorem acs_drop (l : List Az) (k : Nat) : (acs l).drop (k * 3) = acs (l.drop k) := by
  induction l generalizing k with
  | nil => simp [acs]
  | cons d l ih =>
    cases k with
    | zero => simp
    | succ k =>
      have h6 : (Az.cs d).length = 3 := rfl
      simp only [List.drop_succ_cons, acs, List.drop_append, h6, ← ih]
      rw [List.drop_of_length_le (by rw [h6]; omega), show (k + 1) * 3 - 3 = k * 3 by omega, List.nil_append]
theorem acs_get (l : List Az) (i k : Nat) (hi : i < l.length) (hk : k < 3) : (acs l)[i * 3 + k]? = (l[i]).cs[k]? := by
  have h := congrArg (fun x => x[k]?) (acs_drop l i)
  simp only [List.getElem?_drop] at h
  rw [h, List.drop_eq_getElem_cons hi]
  simp only [acs]
  rw [List.getElem?_append_left (by show k < 3; exact hk)]
theorem acs_one_cell (l : List Az) : ∀ u ∈ acs l, u.oneCell' = true := by
  induction l with
  | nil => intro u hu; simp [acs] at hu
  | cons d l ih =>
    intro u hu
    simp only [acs, List.mem_append] at hu
    rcases hu with hu | hu
    · simp [Az.cs] at hu
      rcases hu with rfl | rfl | rfl <;> rfl
    · exact ih u hu
theorem acs_set (l : List Az) (i : Nat) (d : Az) (hi : i < l.length) : acs (l.set i d) = (acs l).take (i * 3) ++ (d.cs ++ (acs l).drop (i * 3 + 3)) := by
  rw [List.set_eq_take_append_cons_drop, if_pos hi, acs_append, acs_take, show i * 3 + 3 = (i + 1) * 3 by omega, acs_drop]
  rfl

/-- rows that are read -/
structure Rs (w : World) (ad : Option Addr) (ab ao : Nat) (L : List Az) : Prop where
  at_ : 0 < L.length → ad = some ⟨ab, ao, none⟩
  c : ∀ i (h : i < L.length) k, k < 3 → w.cell? ⟨ab, ao + i * 3 + k, none⟩ = (L[i]).cs[k]?
theorem Rs.lt {w : World} {ad : Option Addr} {ab ao : Nat} {L : List Az} (h : Rs w ad ab ao L) (h0 : 0 < L.length) : ab < w.heap.size := World.block_lt_of_cell? _ _ (h.c 0 h0 0 (by decide))
theorem Rs.keep {w w' : World} {ad : Option Addr} {ab ao : Nat} {L : List Az} (h : Rs w ad ab ao L) (hk : 0 < L.length → w'.heap[ab]? = w.heap[ab]?) : Rs w' ad ab ao L :=
  ⟨h.at_, fun i hi k h8 => (World.cell?_of_block (hk (by omega))).trans (h.c i hi k h8)⟩
theorem Rs.below {w w' : World} {ad : Option Addr} {ab ao : Nat} {L : List Az} (h : Rs w ad ab ao L) (hb : Below w.heap.size w w') : Rs w' ad ab ao L := h.keep fun h0 => hb.block _ (h.lt h0)
theorem Rs.three {w : World} {ad : Option Addr} {ab ao : Nat} {L : List Az} (h : Rs w ad ab ao L) {i : Nat} (hi : i < L.length) :
    w.cell? ⟨ab, ao + i * 3, none⟩ = some (.int .i64 (L[i]).job) ∧ w.cell? ⟨ab, ao + i * 3 + 1, none⟩ = some (.int .i64 (L[i]).bdg) ∧ w.cell? ⟨ab, ao + i * 3 + 2, none⟩ = some (L[i]).sl :=
  ⟨h.c i hi 0 (by decide), h.c i hi 1 (by decide), h.c i hi 2 (by decide)⟩
theorem Rs.three0 {w : World} {ad : Option Addr} {ab : Nat} {L : List Az} (h : Rs w ad ab 0 L) {i : Nat} (hi : i < L.length) :
    w.cell? ⟨ab, i * 3, none⟩ = some (.int .i64 (L[i]).job) ∧ w.cell? ⟨ab, i * 3 + 1, none⟩ = some (.int .i64 (L[i]).bdg) ∧ w.cell? ⟨ab, i * 3 + 2, none⟩ = some (L[i]).sl := by
  have := h.three hi
  simpa using this
/-- rows of one's own are read -/
theorem Rs.own {w : World} {B : Nat} {L : List Az} {ad : Option Addr} {cap : Nat} (h : w.ownsRow B 40 3 (.slice ad L.length cap) L.length (acs L)) : ∃ ab, Rs w ad ab 0 L ∧ (ad = none ∨ ad = some ⟨ab, 0, none⟩) ∧ L.length ≤ cap := by
  rcases h.2 with ⟨h1, hn⟩ | ⟨g, cap', cur, h1, hb, hg, hc, hm, hs, ht⟩
  · injection h1 with h1 h2 h3
    subst h1
    exact ⟨0, ⟨fun h => absurd h (by omega), fun i hi => absurd hi (by omega)⟩, .inl rfl, by omega⟩
  · injection h1 with h1 h2 h3
    subst h1; subst h3
    refine ⟨g, ⟨fun _ => rfl, fun i hi k hk => ?_⟩, .inr rfl, hc⟩
    have h1 := acs_get L i k hi hk
    obtain ⟨u, hu⟩ : ∃ u, (L[i]).cs[k]? = some u := ⟨_, List.getElem?_eq_getElem (show k < 3 from hk)⟩
    rw [hu] at h1 ⊢
    have := h.cells (g := g) rfl (i * 3 + k) u h1
    rw [Addr.add_lit, Nat.zero_add] at this
    rw [Nat.zero_add]
    exact this

end Go.Proofs.Ytfmanndadjdpbaa.K
end

section
namespace Go.Proofs.Ytfmanndadjdpbaa.K
open Go.RowKit Go.MapKept
set_option maxRecDepth 8000
open Go.ChangeMaps (setBlock heap_setBlock_same heap_setBlock_other modify_eq_set)

/-- by rising badges -/
def Rise (L : List Az) : Prop := L.Pairwise (fun a b => a.job < b.job)
/-- the lease of a badge -/
def fnd (g : Int) : List Az → Az
  | [] => az0
  | x :: l => if x.job = g then x else fnd g l
def has (g : Int) (L : List Az) : Bool := L.any fun x => x.job == g
def del (g : Int) (L : List Az) : List Az := L.filter fun x => x.job != g
/-- laid in its place -/
def ins (x : Az) : List Az → List Az
  | [] => [x]
  | y :: l => if x.job < y.job then x :: y :: l else y :: ins x l
/-- laid in the place of the one of its badge -/
def put (x : Az) (L : List Az) : List Az := ins x (del x.job L)

theorem ins_perm (x : Az) : ∀ L, (ins x L).Perm (x :: L)
  | [] => .refl _
  | y :: l => by
    unfold ins
    split
    · exact .refl _
    · exact ((ins_perm x l).cons y).trans (.swap x y l)
theorem mem_ins {x y : Az} {L : List Az} : y ∈ ins x L ↔ y = x ∨ y ∈ L := by rw [(ins_perm x L).mem_iff, List.mem_cons]
theorem ins_len (x : Az) (L : List Az) : (ins x L).length = L.length + 1 := by rw [(ins_perm x L).length_eq, List.length_cons]
theorem ins_rise {x : Az} : ∀ {L}, Rise L → (∀ y ∈ L, y.job ≠ x.job) → Rise (ins x L)
  | [], _, _ => by simp [ins, Rise]
  | y :: l, h, hn => by
    obtain ⟨h1, h2⟩ := List.pairwise_cons.1 h
    unfold ins
    split
    · rename_i hlt
      refine List.pairwise_cons.2 ⟨fun z hz => ?_, h⟩
      rcases List.mem_cons.1 hz with rfl | hz
      · exact hlt
      · exact Int.lt_trans hlt (h1 z hz)
    · rename_i hlt
      refine List.pairwise_cons.2 ⟨fun z hz => ?_, ins_rise h2 fun z hz => hn z (.tail _ hz)⟩
      rcases mem_ins.1 hz with rfl | hz
      · have := hn y (.head _); omega
      · exact h1 z hz
theorem del_rise {L : List Az} (h : Rise L) (g : Int) : Rise (del g L) := h.filter _
theorem mem_del {g : Int} {L : List Az} {x : Az} : x ∈ del g L ↔ x ∈ L ∧ x.job ≠ g := by simp [del]
theorem put_rise {L : List Az} (h : Rise L) (x : Az) : Rise (put x L) := ins_rise (del_rise h _) fun _ hy => (mem_del.1 hy).2
theorem mem_put {x y : Az} {L : List Az} : y ∈ put x L ↔ y = x ∨ (y ∈ L ∧ y.job ≠ x.job) := by unfold put; rw [mem_ins, mem_del]
theorem has_iff {g : Int} {L : List Az} : has g L = true ↔ ∃ x ∈ L, x.job = g := by simp [has]
theorem has_false {g : Int} {L : List Az} : has g L = false ↔ ∀ x ∈ L, x.job ≠ g := by simp [has]
theorem rise_one {L : List Az} (h : Rise L) {x y : Az} (hx : x ∈ L) (hy : y ∈ L) (e : x.job = y.job) : x = y := by
  induction L with
  | nil => cases hx
  | cons z l ih =>
    obtain ⟨h1, h2⟩ := List.pairwise_cons.1 h
    rcases List.mem_cons.1 hx with ex | hx
    · rcases List.mem_cons.1 hy with ey | hy
      · rw [ex, ey]
      · have := h1 y hy; rw [ex] at e; omega
    · rcases List.mem_cons.1 hy with ey | hy
      · have := h1 x hx; rw [ey] at e; omega
      · exact ih h2 hx hy
theorem fnd_none {g : Int} : ∀ {L}, has g L = false → fnd g L = az0
  | [], _ => rfl
  | x :: l, h => by
    have h0 := has_false.1 h
    unfold fnd
    rw [if_neg (h0 x (.head _))]
    exact fnd_none (has_false.2 fun y hy => h0 y (.tail _ hy))
theorem fnd_at {L : List Az} (h : Rise L) {x : Az} (hx : x ∈ L) : fnd x.job L = x := by
  induction L with
  | nil => cases hx
  | cons z l ih =>
    obtain ⟨h1, h2⟩ := List.pairwise_cons.1 h
    unfold fnd
    split
    · rename_i e; exact rise_one h (.head _) hx e
    · rename_i e
      rcases List.mem_cons.1 hx with rfl | hx
      · exact absurd rfl e
      · exact ih h2 hx
theorem fnd_mem {g : Int} : ∀ {L}, has g L = true → fnd g L ∈ L ∧ (fnd g L).job = g
  | [], h => by simp [has] at h
  | x :: l, h => by
    unfold fnd
    split
    · rename_i e; exact ⟨.head _, e⟩
    · rename_i e
      obtain ⟨y, hy, e2⟩ := has_iff.1 h
      rcases List.mem_cons.1 hy with rfl | hy
      · exact absurd e2 e
      · obtain ⟨h1, h2⟩ := fnd_mem (has_iff.2 ⟨y, hy, e2⟩)
        exact ⟨.tail _ h1, h2⟩
/-- two rising lists of the same members are one -/
theorem rise_eq : ∀ {A B : List Az}, Rise A → Rise B → A.Perm B → A = B
  | [], B, _, _, p => p.nil_eq
  | a :: A, [], _, _, p => absurd p.length_eq (by simp)
  | a :: A, b :: B, hA, hB, p => by
    obtain ⟨a1, a2⟩ := List.pairwise_cons.1 hA
    obtain ⟨b1, b2⟩ := List.pairwise_cons.1 hB
    have e : a = b := by
      have h1 : a ∈ b :: B := p.mem_iff.1 (.head _)
      have h2 : b ∈ a :: A := p.mem_iff.2 (.head _)
      rcases List.mem_cons.1 h1 with h1 | h1
      · exact h1
      · rcases List.mem_cons.1 h2 with h2 | h2
        · exact h2.symm
        · have := b1 a h1; have := a1 b h2; omega
    subst e
    rw [rise_eq a2 b2 (List.perm_cons a |>.1 p)]

def kv (e : MapEntry) : Value × Value := (e.key, e.val)
def lkv (x : Az) : Value × Value := (.int .i64 x.job, x.val)
/-- block m is a map of the leases L -/
def Lm (w : World) (m : Nat) (L : List Az) : Prop :=
  Rise L ∧ ∃ es clock, w.heap[m]? = some (.map es clock) ∧ Stamped es clock ∧ (es.toList.map kv).Perm (L.map lkv)

section
variable {w w' : World} {m : Nat} {L : List Az}
theorem Lm.keep (h : Lm w m L) (e : w'.heap[m]? = w.heap[m]?) : Lm w' m L := by
  obtain ⟨h0, es, c, h1, h2⟩ := h
  exact ⟨h0, es, c, e.trans h1, h2⟩
theorem Lm.lt (h : Lm w m L) : m < w.heap.size := by
  obtain ⟨_, es, c, h1, _⟩ := h
  exact (Array.getElem?_eq_some_iff.1 h1).1
theorem Lm.block (h : Lm w m L) : ∃ es c, w.heap[m]? = some (.map es c) := by
  obtain ⟨_, es, c, h1, _⟩ := h
  exact ⟨es, c, h1⟩
theorem Lm.below (h : Lm w m L) (hb : Below w.heap.size w w') : Lm w' m L := h.keep (hb.block _ h.lt)
theorem lm_new (w : World) : Lm (w.alloc (.map #[] 0)) w.heap.size [] := ⟨.nil, #[], 0, (MapKept.heap_alloc w _).1, stamped_empty 0, by simp⟩

theorem keys_are {es : Array MapEntry} (hp : (es.toList.map kv).Perm (L.map lkv)) : ∀ x ∈ es.toList, ∃ y ∈ L, kv x = lkv y := fun x hx => by
  have h1 : kv x ∈ L.map lkv := hp.mem_iff.1 (List.mem_map.2 ⟨x, hx, rfl⟩)
  obtain ⟨y, hy, e⟩ := List.mem_map.1 h1
  exact ⟨y, hy, e.symm⟩
theorem keys_key {es : Array MapEntry} (hp : (es.toList.map kv).Perm (L.map lkv)) : ∀ x ∈ es.toList, IsKey (.int .i64) x.key := fun x hx => by
  obtain ⟨y, _, e⟩ := keys_are hp x hx
  simp only [kv, lkv, Prod.mk.injEq] at e
  rw [e.1]
  rfl
theorem mem_are {es : Array MapEntry} (hp : (es.toList.map kv).Perm (L.map lkv)) {y : Az} (hy : y ∈ L) : ∃ x ∈ es.toList, kv x = lkv y := by
  have h1 : lkv y ∈ es.toList.map kv := hp.mem_iff.2 (List.mem_map.2 ⟨y, hy, rfl⟩)
  obtain ⟨x, hx, e⟩ := List.mem_map.1 h1
  exact ⟨x, hx, e⟩

/-- v, ok := m[g] -/
theorem Lm.look (h : Lm w m L) (g : Int) : (Instr.lookup 44 (.map (some m)) (.int .i64 g) true).run Try.prog w = .ok (.tuple #[(fnd g L).val, .bool (has g L)]) w := by
  obtain ⟨hR, es, clock, hb, hst, hp⟩ := h
  have hz : (zeroValue 40).run Try.prog w = .ok az0.val w := by kernel_rfl
  have ht : Try.prog.underlying 44 = some (.map 3 40) := Try.underlying44
  rcases findNow_spec (d := .int .i64) (k := .int .i64 g) rfl es.toList 0 (keys_key hp) with ⟨h1, h2⟩ | ⟨j, e, h1, h2, h3⟩
  · have hf : has g L = false := has_false.2 fun x hx e => by
      obtain ⟨y, hy, e2⟩ := mem_are hp hx
      simp only [kv, lkv, Prod.mk.injEq] at e2
      exact h2 y hy (by rw [e2.1, e])
    rw [fnd_none hf, hf]
    simp [Instr.lookup, run_underlying ht, MapKept.run_getObj_map hb, run_checkKey Try.underlying3 (k := .int .i64 g) (d := .int .i64) rfl, run_findKey Try.underlying3 h1, hz, Result.andThen]
  · obtain ⟨y, hy, e2⟩ := keys_are hp e (List.mem_of_getElem? h2)
    simp only [kv, lkv, Prod.mk.injEq] at e2
    have eg : y.job = g := by
      have := e2.1
      rw [h3] at this
      injection this with _ this
      exact this.symm
    have hh : has g L = true := has_iff.2 ⟨y, hy, eg⟩
    have hf : fnd g L = y := by rw [← eg]; exact fnd_at hR hy
    rw [hf, hh, ← e2.2]
    simp [Instr.lookup, run_underlying ht, MapKept.run_getObj_map hb, run_checkKey Try.underlying3 (k := .int .i64 g) (d := .int .i64) rfl, run_findKey Try.underlying3 h1, Result.andThen]

theorem set_grown {es : Array MapEntry} {c : Nat} (hb : w.heap[m]? = some (.map es c)) (o : Obj) : w.grownBy (setBlock w m o) (some m) :=
  ⟨rfl, rfl, rfl, by simp [setBlock], fun i _ hi => heap_setBlock_other hb _ (fun e => hi (by rw [e]))⟩
/-- is it that key? -/
def kb (g : Int) : Value → Bool
  | .int _ a => a == g
  | _ => false
theorem kb_int (g a : Int) (q : IntKind) : kb g (.int q a) = (a == g) := rfl
theorem kb_key {g : Int} {v : Value} (hv : IsKey (.int .i64) v) : kb g v = true ↔ v = .int .i64 g := by
  cases v <;> simp_all [IsKey, kb]
theorem perm_filter_del {E : List (Value × Value)} (hp : E.Perm (L.map lkv)) (g : Int) : (E.filter fun p => !kb g p.1).Perm ((del g L).map lkv) := by
  refine (hp.filter _).trans ?_
  rw [List.filter_map]
  refine List.Perm.of_eq (congrArg (List.map lkv) ?_)
  unfold del
  congr 1
theorem nodup_keys {es : Array MapEntry} {c : Nat} (h : Stamped es c) : es.toList.Pairwise (fun x y => x.key ≠ y.key) := ((stamped_iff es c).1 h).2.2
theorem set_cons {α : Type} {l : List α} {j : Nat} (hj : j < l.length) (a : α) : (l.set j a).Perm (a :: l.eraseIdx j) := by
  induction l generalizing j with
  | nil => simp at hj
  | cons b l ih =>
    cases j with
    | zero => exact .refl _
    | succ j =>
      rw [List.set_cons_succ, List.eraseIdx_cons_succ]
      exact ((ih (by simpa using hj)).cons b).trans (.swap a b _)
/-- the others -/
theorem others {l : List MapEntry} (hp : l.Pairwise (fun x y => x.key ≠ y.key)) (hk : ∀ x ∈ l, IsKey (.int .i64) x.key) {g : Int} {j : Nat} {e : MapEntry} (hj : l[j]? = some e) (he : e.key = .int .i64 g) : l.filter (fun x => !kb g x.key) = l.eraseIdx j := by
  induction l generalizing j with
  | nil => simp at hj
  | cons a l ih =>
    obtain ⟨h1, h2⟩ := List.pairwise_cons.1 hp
    cases j with
    | zero =>
      simp only [List.getElem?_cons_zero, Option.some.injEq] at hj
      subst hj
      rw [List.filter_cons_of_neg (by simp [(kb_key (hk a (.head _))).2 he]), List.eraseIdx_cons_zero]
      refine List.filter_eq_self.2 fun x hx => ?_
      cases hb : kb g x.key
      · rfl
      · exact absurd (he.trans ((kb_key (hk x (.tail _ hx))).1 hb).symm) (h1 x hx)
    | succ j =>
      simp only [List.getElem?_cons_succ] at hj
      have hb : kb g a.key = false := by
        cases hb : kb g a.key
        · rfl
        · exact absurd (((kb_key (hk a (.head _))).1 hb).trans he.symm) (h1 e (List.mem_of_getElem? hj))
      rw [List.filter_cons_of_pos (by simp [hb]), ih h2 (fun x hx => hk x (.tail _ hx)) hj, List.eraseIdx_cons_succ]
theorem filter_none {l : List MapEntry} (hk : ∀ x ∈ l, IsKey (.int .i64) x.key) {g : Int} (h : ∀ x ∈ l, x.key ≠ .int .i64 g) : l.filter (fun x => !kb g x.key) = l := List.filter_eq_self.2 fun x hx => by
  cases hb : kb g x.key
  · rfl
  · exact absurd ((kb_key (hk x hx)).1 hb) (h x hx)
theorem filter_kv (l : List MapEntry) (g : Int) : (l.map kv).filter (fun p => !kb g p.1) = (l.filter fun x => !kb g x.key).map kv := by
  rw [List.filter_map]; rfl

/-- delete(m, g) -/
theorem Lm.drop (h : Lm w m L) (g : Int) (ty : TypeId) : ∃ w', (Builtin.delete_ #[44, 3] ty #[.map (some m), .int .i64 g]).run Try.prog w = .ok (.tuple #[]) w' ∧ Lm w' m (del g L) ∧ w.grownBy w' (some m) := by
  obtain ⟨hR, es, clock, hb, hst, hp⟩ := h
  have ht : Try.prog.underlying 44 = some (.map 3 40) := Try.underlying44
  have hq := perm_filter_del hp g
  rw [filter_kv] at hq
  rcases findNow_spec (d := .int .i64) (k := .int .i64 g) rfl es.toList 0 (keys_key hp) with ⟨h1, h2⟩ | ⟨j, e, h1, h2, h3⟩
  · refine ⟨setBlock w m (.map es clock), ?_, ⟨del_rise hR g, es, clock, heap_setBlock_same hb _, hst, ?_⟩, set_grown hb _⟩
    · simp [Builtin.delete_, run_underlying ht, MapKept.run_getObj_map hb, run_checkKey Try.underlying3 (k := .int .i64 g) (d := .int .i64) rfl, run_findKey Try.underlying3 h1, MapKept.run_setObj_map _ hb, Result.andThen, setBlock]
    · rwa [filter_none (keys_key hp) h2] at hq
  · have hjs : j < es.size := by
      have := (List.getElem?_eq_some_iff.1 h2).1
      simpa using this
    have hsub : (es.eraseIdxIfInBounds j).toList = es.toList.eraseIdx j := by
      unfold Array.eraseIdxIfInBounds
      rw [dif_pos hjs]
      simp
    refine ⟨setBlock w m (.map (es.eraseIdxIfInBounds j) clock), ?_, ⟨del_rise hR g, _, clock, heap_setBlock_same hb _, stamped_erase hst j, ?_⟩, set_grown hb _⟩
    · simp [Builtin.delete_, run_underlying ht, MapKept.run_getObj_map hb, run_checkKey Try.underlying3 (k := .int .i64 g) (d := .int .i64) rfl, run_findKey Try.underlying3 h1, MapKept.run_setObj_map _ hb, Result.andThen, setBlock]
    · rw [others (nodup_keys hst) (keys_key hp) h2 h3] at hq
      rw [hsub]
      exact hq

/-- m[x.job] = x -/
theorem Lm.store (h : Lm w m L) (x : Az) : ∃ w', (Instr.mapUpdate 44 (.map (some m)) (.int .i64 x.job) x.val).run Try.prog w = .ok () w' ∧ Lm w' m (put x L) ∧ w.grownBy w' (some m) := by
  obtain ⟨hR, es, clock, hb, hst, hp⟩ := h
  have ht : Try.prog.underlying 44 = some (.map 3 40) := Try.underlying44
  have hq := perm_filter_del hp x.job
  rw [filter_kv] at hq
  have hfin : (lkv x :: (del x.job L).map lkv).Perm ((put x L).map lkv) := by
    unfold put
    exact ((ins_perm x (del x.job L)).map lkv).symm
  rcases findNow_spec (d := .int .i64) (k := .int .i64 x.job) rfl es.toList 0 (keys_key hp) with ⟨h1, h2⟩ | ⟨j, e, h1, h2, h3⟩
  · refine ⟨setBlock w m (.map (es.push { key := .int .i64 x.job, val := x.val, born := clock }) (clock + 1)), ?_, ⟨put_rise hR x, _, _, heap_setBlock_same hb _, stamped_push hst h2, ?_⟩, set_grown hb _⟩
    · simp [Instr.mapUpdate, run_underlying ht, MapKept.run_getObj_map hb, run_checkKey Try.underlying3 (k := .int .i64 x.job) (d := .int .i64) rfl, run_findKey Try.underlying3 h1, MapKept.run_setObj_map _ hb, Result.andThen, setBlock]
    · rw [filter_none (keys_key hp) h2] at hq
      rw [Array.toList_push, List.map_append]
      exact List.perm_append_comm.trans (((hq.cons (lkv x))).trans hfin)
  · have hjs : j < es.size := by
      have := (List.getElem?_eq_some_iff.1 h2).1
      simpa using this
    have hej : es[j]? = some e := by rw [← Array.getElem?_toList]; exact h2
    have hstay : (Instr.keyThatStays (.int .i64 x.job) (.int .i64 x.job)).run Try.prog w = .ok (.int .i64 x.job) w := by
      simp [Instr.keyThatStays, Instr.sameBits]
    refine ⟨setBlock w m (.map (es.modify j fun e => { e with key := .int .i64 x.job, val := x.val }) clock), ?_, ⟨put_rise hR x, _, _, heap_setBlock_same hb _, stamped_modify hst j _ (fun _ _ => rfl) (fun e' _ he' => ?_), ?_⟩, set_grown hb _⟩
    · simp [Instr.mapUpdate, run_underlying ht, MapKept.run_getObj_map hb, run_checkKey Try.underlying3 (k := .int .i64 x.job) (d := .int .i64) rfl, run_findKey Try.underlying3 h1, hej, h3, hstay, MapKept.run_setObj_map _ hb, Result.andThen, setBlock]
    · rw [hej] at he'
      injection he' with he'
      rw [← he', h3]
    · rw [others (nodup_keys hst) (keys_key hp) h2 h3] at hq
      have hset : ((es.modify j fun e => { e with key := .int .i64 x.job, val := x.val }).toList.map kv).Perm (lkv x :: (es.toList.eraseIdx j).map kv) := by
        have e1 : (es.modify j fun e => { e with key := .int .i64 x.job, val := x.val }).toList = es.toList.set j { key := .int .i64 x.job, val := x.val, born := e.born } := by
          apply List.ext_getElem?
          intro i
          rw [Array.getElem?_toList, Array.getElem?_modify, List.getElem?_set]
          by_cases hij : j = i
          · subst hij
            have ej : es[j] = e := (Array.getElem?_eq_some_iff.1 hej).2
            simp [hjs, ej]
          · simp [hij]
        rw [e1]
        have := (set_cons (l := es.toList) (j := j) (by simpa using hjs) { key := .int .i64 x.job, val := x.val, born := e.born }).map kv
        exact this
      exact hset.trans ((hq.cons (lkv x)).trans hfin)

/-- len(m) -/
theorem Lm.len (h : Lm w m L) (ty : TypeId) : (Builtin.len_ #[44] ty #[.map (some m)]).run Try.prog w = .ok (.int .i64 (L.length : Int)) w := by
  obtain ⟨hR, es, clock, hb, hst, hp⟩ := h
  have ht : Try.prog.underlying 44 = some (.map 3 40) := Try.underlying44
  have hl : es.size = L.length := by have := hp.length_eq; simpa using this
  simp [Builtin.len_, run_underlying ht, MapKept.run_getObj_map hb, Result.andThen, hl, goInt]
end
end Go.Proofs.Ytfmanndadjdpbaa.K
end

section
namespace Go.Proofs.Ytfmanndadjdpbaa.K
open Go.RowKit Go.MapKept
open Go.ChangeMaps (setBlock)

theorem left_perm (seen : Array Nat) {e : MapEntry} : ∀ {l : List MapEntry}, (l.map (·.born)).Nodup → e ∈ l → seen.contains e.born = false →
    (l.filter fun x => !seen.contains x.born).Perm (e :: l.filter fun x => !(seen.push e.born).contains x.born)
  | [], _, h, _ => by cases h
  | a :: l, hn, he, hs => by
    rw [List.map_cons, List.nodup_cons] at hn
    obtain ⟨h1, h2⟩ := hn
    rcases List.mem_cons.1 he with ea | he
    · subst ea
      have hq : (seen.push e.born).contains e.born = true := by rw [contains_push]; simp
      rw [List.filter_cons_of_pos (by rw [hs]; rfl), List.filter_cons_of_neg (by rw [hq]; decide)]
      refine List.Perm.of_eq (congrArg (List.cons e) (List.filter_congr fun x hx => ?_))
      have hne : (x.born == e.born) = false := by
        rw [beq_eq_false_iff_ne]
        intro e1
        exact h1 (List.mem_map.2 ⟨x, hx, e1⟩)
      rw [contains_push, hne, Bool.or_false]
    · have hne : (a.born == e.born) = false := by
        rw [beq_eq_false_iff_ne]
        intro e1
        exact h1 (List.mem_map.2 ⟨e, he, e1.symm⟩)
      have ih := left_perm seen h2 he hs
      cases ha : seen.contains a.born
      · rw [List.filter_cons_of_pos (by rw [ha]; rfl), List.filter_cons_of_pos (by rw [contains_push, hne, ha]; rfl)]
        exact (ih.cons a).trans (.swap e a _)
      · rw [List.filter_cons_of_neg (by rw [ha]; decide), List.filter_cons_of_neg (by rw [contains_push, hne, ha]; decide)]
        exact ih

/-- a range over the map m is under way: rest is still to come -/
def Mi (w : World) (m r : Nat) (L rest : List Az) : Prop :=
  Rise L ∧ ∃ es clock seen, w.heap[m]? = some (.map es clock) ∧ Stamped es clock ∧ (es.toList.map kv).Perm (L.map lkv) ∧ w.heap[r]? = some (.mapIter (some m) clock seen clock) ∧ ((leftOf es seen).toList.map kv).Perm (rest.map lkv)

section
variable {w w' : World} {m r : Nat} {L rest : List Az}
theorem Mi.lm (h : Mi w m r L rest) : Lm w m L := by
  obtain ⟨h0, es, c, seen, h1, h2, h3, _⟩ := h
  exact ⟨h0, es, c, h1, h2, h3⟩
theorem Mi.keep (h : Mi w m r L rest) (hm : w'.heap[m]? = w.heap[m]?) (hr : w'.heap[r]? = w.heap[r]?) : Mi w' m r L rest := by
  obtain ⟨h0, es, c, seen, h1, h2, h3, h4, h5⟩ := h
  exact ⟨h0, es, c, seen, hm.trans h1, h2, h3, hr.trans h4, h5⟩
theorem Mi.rlt (h : Mi w m r L rest) : r < w.heap.size := by
  obtain ⟨h0, es, c, seen, h1, h2, h3, h4, h5⟩ := h
  exact (Array.getElem?_eq_some_iff.1 h4).1
theorem Mi.walks (h : Mi w m r L rest) (k : KeepsWalks w w') : Mi w' m r L rest := by
  obtain ⟨h0, es, c, seen, h1, h2, h3, h4, h5⟩ := h
  exact ⟨h0, es, c, seen, k.same m _ h1 rfl, h2, h3, k.same r _ h4 rfl, h5⟩
theorem Mi.left (h : Mi w m r L rest) : w.rangeLeft m r = rest.length := by
  obtain ⟨h0, es, c, seen, h1, h2, h3, h4, h5⟩ := h
  simp only [World.rangeLeft, h1, h4]
  have := h5.length_eq
  simpa using this
theorem Mi.iter (h : Mi w m r L rest) : ∃ o : Obj, w.heap[r]? = some o ∧ o.isWalk = true := by
  obtain ⟨h0, es, c, seen, h1, h2, h3, h4, h5⟩ := h
  exact ⟨_, h4, rfl⟩
/-- range m -/
theorem Lm.range (h : Lm w m L) : ∃ W', (Instr.range 44 (.map (some m))).run Try.prog w = .ok (.pointer (some ⟨w.heap.size, 0, none⟩)) W' ∧ Mi W' m w.heap.size L L ∧ w.grownBy W' none ∧ W'.heap.size = w.heap.size + 1 := by
  have hlt := h.lt
  obtain ⟨h0, es, c, h1, h2, h3⟩ := h
  refine ⟨_, run_range_map w _ 3 40 m es c Try.underlying44 h1, ⟨h0, es, c, #[], ((MapKept.heap_alloc w _).2 m hlt).trans h1, h2, h3, (MapKept.heap_alloc w _).1, ?_⟩, World.grownBy_alloc w _ none, by simp⟩
  have : leftOf es #[] = es := by simp [leftOf]
  rw [this]
  exact h3
/-- its step -/
theorem Mi.next (h : Mi w m r L rest) (ty : TypeId) :
    (rest = [] ∧ (Instr.next (.pointer (some ⟨r, 0, none⟩)) false ty).run Try.prog w = .ok (.tuple #[.bool false]) w) ∨
    ∃ x rest' W', rest.Perm (x :: rest') ∧ (Instr.next (.pointer (some ⟨r, 0, none⟩)) false ty).run Try.prog w = .ok (.tuple #[.bool true, .int .i64 x.job, x.val]) W' ∧ Mi W' m r L rest' ∧
      (Instr.entry (.pointer (some ⟨r, 0, none⟩))).run Try.prog W' = .ok (.tuple #[.int .i64 x.job, x.val]) W' ∧ w.grownBy W' (some r) ∧ W'.heap.size = w.heap.size := by
  obtain ⟨h0, es, c, seen, hb, hst, hp, hr, hl⟩ := h
  have hst' := (stamped_iff es c).1 hst
  have hne : m ≠ r := fun e => by rw [e, hr] at hb; cases hb
  rcases run_next_at (P := Try.prog) w ty r m c c seen es c hr hb hst'.1 (Nat.le_refl _) with ⟨hz, hrun⟩ | ⟨e, he, w1, hal, hrun⟩
  · refine .inl ⟨?_, hrun⟩
    have := hl.length_eq
    simp only [List.length_map, Array.length_toList, hz] at this
    exact List.eq_nil_of_length_eq_zero this.symm
  · have hmem : e ∈ es.toList ∧ seen.contains e.born = false := by
      simp only [leftOf, Array.toList_filter, List.mem_filter, Bool.not_eq_true'] at he
      exact he
    have hx : ∃ x ∈ rest, lkv x = kv e := by
      have h1 : kv e ∈ rest.map lkv := hl.mem_iff.1 (List.mem_map.2 ⟨e, he, rfl⟩)
      exact List.mem_map.1 h1
    obtain ⟨x, hx, ex⟩ := hx
    have ek : e.key = .int .i64 x.job := (congrArg Prod.fst ex).symm
    have ev : e.val = x.val := (congrArg Prod.snd ex).symm
    have hr1 : w1.heap[r]? = some (.mapIter (some m) c seen c) := by rcases hal with rfl | rfl <;> exact hr
    have hb1 : w1.heap[m]? = some (.map es c) := by rcases hal with rfl | rfl <;> exact hb
    have hset := heap_set (o' := .mapIter (some m) c (seen.push e.born) c) hr1
    have hb' : (setBlock w1 r (.mapIter (some m) c (seen.push e.born) c)).heap[m]? = some (.map es c) := (hset.2 m hne).trans hb1
    refine .inr ⟨x, rest.erase x, _, List.perm_cons_erase hx, by rw [← ek, ← ev]; exact hrun, ⟨h0, es, c, seen.push e.born, hb', hst, hp, hset.1, ?_⟩, ?_, ?_, ?_⟩
    · have h1 : ((leftOf es seen).toList).Perm (e :: (leftOf es (seen.push e.born)).toList) := by
        have := left_perm seen hst'.2.1 hmem.1 hmem.2
        simpa only [leftOf, Array.toList_filter] using this
      have h2 := (h1.map kv).symm.trans (hl.trans ((List.perm_cons_erase hx).map lkv))
      rw [List.map_cons, List.map_cons, ← ex] at h2
      exact (List.perm_cons _).1 h2
    · rw [← ek, ← ev]
      exact run_entry_at _ r m c seen es c e hset.1 hb' hmem.1 hst'.2.1
    · rcases hal with rfl | rfl <;> exact ⟨rfl, rfl, rfl, by simp [setBlock], fun i _ hi => hset.2 i (fun e1 => hi (by rw [e1]))⟩
    · rcases hal with rfl | rfl <;> simp [setBlock]
end
end Go.Proofs.Ytfmanndadjdpbaa.K
end
