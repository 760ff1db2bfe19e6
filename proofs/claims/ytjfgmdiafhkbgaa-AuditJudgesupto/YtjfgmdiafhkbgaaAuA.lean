import Derived.Test.YtjfgmdiafhkbgaaRows
import Derived.WalkKit
import Derived.WalkSpells
import Derived.WalkLawsBesides
import Derived.BigQuiet
import Derived.BigRegion
import Derived.Deep.Cut
import Derived.Deep.AppendLies
import Derived.Deep.RegionLaw
import Derived.Deep.RegionHeld3
import Derived.Deep.DeepAppendWide
import Derived.Laws.StructEq
import Derived.Laws.ResultCell
import Derived.Laws.EntriesVeiled
import Derived.Laws.MakeOwn
import Derived.Deep.SlicePairs
import Derived.Lib.SmallJoins
import Derived.Lib.SliceRun
import Derived.Carry
import Derived.DeepKeys4
import Derived.WideKeyEntry
namespace Go.Proofs.Ytjfgmdiafhkbgaa
open Go.RowKit Go.MapKept
open Go.ChangeMaps (setBlock heap_setBlock_same heap_setBlock_other modify_eq_set)
set_option maxRecDepth 8000

theorem hide {p : Prop} (h : p) : Hid p := h
/-- a kind of map: its keys, its values -/
structure Mk (α β : Type) where
  t : TypeId
  kt : TypeId
  et : TypeId
  z : Value
  kf : α → Value
  vf : β → Value
  ok : α → Prop
structure Mk.Good {α β : Type} (P : Program) (K : Mk α β) : Prop where
  ht : P.underlying K.t = some (.map K.kt K.et)
  law : WideMaps.KeyLaw P K.kt
  hk : ∀ a, K.ok a → ∃ l, keyOf P K.kt (K.kf a) = some l
  inj : ∀ a b, K.kf a = K.kf b → a = b
  hz : ∀ w : World, (zeroValue K.et).run P w = .ok K.z w
/-- block m is a map of f -/
def Mq {α β : Type} (K : Mk α β) (w : World) (m : Nat) (f : α → Option β) : Prop :=
  ∃ es clock, w.heap[m]? = some (.map es clock) ∧ Stamped es clock ∧ (∀ e ∈ es.toList, ∃ a b, K.ok a ∧ e.key = K.kf a ∧ e.val = K.vf b ∧ f a = some b) ∧
    ∀ a b, K.ok a → f a = some b → ∃ e ∈ es.toList, e.key = K.kf a
/-- what a look-up gives -/
def Mk.get {α β : Type} (K : Mk α β) (f : α → Option β) (a : α) : Value := match f a with | some b => K.vf b | none => K.z
def upd {α β : Type} [DecidableEq α] (f : α → Option β) (a : α) (b : β) : α → Option β := fun x => if x = a then some b else f x
section
variable {α β : Type} {P : Program} {K : Mk α β} {w w' : World} {m : Nat} {f : α → Option β}
theorem Mq.keep (h : Mq K w m f) (e : w'.heap[m]? = w.heap[m]?) : Mq K w' m f := by
  obtain ⟨es, c, h1, h2⟩ := h
  exact ⟨es, c, e.trans h1, h2⟩
theorem Mq.lt (h : Mq K w m f) : m < w.heap.size := by
  obtain ⟨es, c, h1, _⟩ := h
  exact (Array.getElem?_eq_some_iff.1 h1).1
theorem Mq.block (h : Mq K w m f) : ∃ es c, w.heap[m]? = some (.map es c) := by
  obtain ⟨es, c, h1, _⟩ := h
  exact ⟨es, c, h1⟩
theorem mq_new (K : Mk α β) (w : World) : Mq K (w.alloc (.map #[] 0)) w.heap.size fun _ => none :=
  ⟨#[], 0, (MapKept.heap_alloc w _).1, stamped_empty 0, fun e he => by simp at he, fun a b _ h => by cases h⟩
theorem Mq.find (G : K.Good P) {es : Array MapEntry} (hes : ∀ e ∈ es.toList, ∃ a b, K.ok a ∧ e.key = K.kf a ∧ e.val = K.vf b ∧ f a = some b) (hall : ∀ a b, K.ok a → f a = some b → ∃ e ∈ es.toList, e.key = K.kf a) (u : World) {a : α} (ha : K.ok a) :
    ((Instr.findKey K.kt (K.kf a) es.toList).run P u = .ok none u ∧ f a = none ∧ ∀ e ∈ es.toList, e.key ≠ K.kf a) ∨
    ∃ j e b, (Instr.findKey K.kt (K.kf a) es.toList).run P u = .ok (some (j, e.val)) u ∧ es.toList[j]? = some e ∧ e.key = K.kf a ∧ e.val = K.vf b ∧ f a = some b := by
  obtain ⟨l, hl⟩ := G.hk a ha
  rcases G.law.find u hl es.toList (fun e he => by
    obtain ⟨a', b', ha', e1, _⟩ := hes e he
    rw [e1]
    exact G.hk a' ha') with ⟨h1, h2⟩ | ⟨j, e, h1, h2, h3⟩
  · refine .inl ⟨h1, ?_, h2⟩
    cases hf : f a with
    | none => rfl
    | some b =>
      obtain ⟨e, he, e1⟩ := hall a b ha hf
      exact absurd e1 (h2 e he)
  · obtain ⟨a', b', _, e1, e2, e3⟩ := hes e (List.mem_of_getElem? h2)
    have : a' = a := G.inj _ _ (e1.symm.trans h3)
    subst this
    exact .inr ⟨j, e, b', h1, h2, h3, e2, e3⟩
/-- v, ok := m[a] -/
theorem Mq.look (h : Mq K w m f) (G : K.Good P) {a : α} (ha : K.ok a) : (Instr.lookup K.t (.map (some m)) (K.kf a) true).run P w = .ok (.tuple #[K.get f a, .bool (f a).isSome]) w := by
  obtain ⟨es, clock, hb, _, hes, hall⟩ := h
  obtain ⟨l, hl⟩ := G.hk a ha
  rcases Mq.find G hes hall w ha with ⟨h1, h2, _⟩ | ⟨j, e, b, h1, _, _, h4, h5⟩
  · simp [Instr.lookup, run_underlying G.ht, MapKept.run_getObj_map hb, G.law.check w _ hl, h1, G.hz, Result.andThen, Mk.get, h2]
  · simp [Instr.lookup, run_underlying G.ht, MapKept.run_getObj_map hb, G.law.check w _ hl, h1, Result.andThen, Mk.get, h4, h5]
/-- m[a] -/
theorem Mq.look1 (h : Mq K w m f) (G : K.Good P) {a : α} (ha : K.ok a) : (Instr.lookup K.t (.map (some m)) (K.kf a) false).run P w = .ok (K.get f a) w := by
  obtain ⟨es, clock, hb, _, hes, hall⟩ := h
  obtain ⟨l, hl⟩ := G.hk a ha
  rcases Mq.find G hes hall w ha with ⟨h1, h2, _⟩ | ⟨j, e, b, h1, _, _, h4, h5⟩
  · simp [Instr.lookup, run_underlying G.ht, MapKept.run_getObj_map hb, G.law.check w _ hl, h1, G.hz, Result.andThen, Mk.get, h2]
  · simp [Instr.lookup, run_underlying G.ht, MapKept.run_getObj_map hb, G.law.check w _ hl, h1, Result.andThen, Mk.get, h4, h5]
theorem mq_set_grown {es : Array MapEntry} {c : Nat} (hb : w.heap[m]? = some (.map es c)) (o : Obj) : w.grownBy (setBlock w m o) (some m) :=
  ⟨rfl, rfl, rfl, by simp [setBlock], fun i _ hi => heap_setBlock_other hb _ (fun e => hi (by rw [e]))⟩
variable [DecidableEq α]
/-- a map in which one was laid -/
theorem mq_push {es : Array MapEntry} {clock : Nat} (hb : w.heap[m]? = some (.map es clock)) (hst : Stamped es clock) (hes : ∀ e ∈ es.toList, ∃ a b, K.ok a ∧ e.key = K.kf a ∧ e.val = K.vf b ∧ f a = some b) (hall : ∀ a b, K.ok a → f a = some b → ∃ e ∈ es.toList, e.key = K.kf a)
    {a : α} (ha : K.ok a) (b : β) (hn : ∀ e ∈ es.toList, e.key ≠ K.kf a) : Mq K (setBlock w m (.map (es.push { key := K.kf a, val := K.vf b, born := clock }) (clock + 1))) m (upd f a b) := by
  refine ⟨_, _, heap_setBlock_same hb _, stamped_push hst hn, fun e he => ?_, fun a' b' ha' h' => ?_⟩
  · rw [Array.toList_push, List.mem_append, List.mem_singleton] at he
    rcases he with he | rfl
    · obtain ⟨a', b', h1, h2, h3, h4⟩ := hes e he
      refine ⟨a', b', h1, h2, h3, ?_⟩
      have : a' ≠ a := fun e1 => hn e he (by rw [h2, e1])
      simp [upd, this, h4]
    · exact ⟨a, b, ha, rfl, rfl, by simp [upd]⟩
  · by_cases e1 : a' = a
    · subst e1
      exact ⟨_, by rw [Array.toList_push]; exact List.mem_append_right _ (.head _), rfl⟩
    · simp [upd, e1] at h'
      obtain ⟨e, he, h2⟩ := hall a' b' ha' h'
      exact ⟨e, by rw [Array.toList_push]; exact List.mem_append_left _ he, h2⟩
theorem mq_mod (G : K.Good P) {es : Array MapEntry} {clock : Nat} (hb : w.heap[m]? = some (.map es clock)) (hst : Stamped es clock) (hes : ∀ e ∈ es.toList, ∃ a b, K.ok a ∧ e.key = K.kf a ∧ e.val = K.vf b ∧ f a = some b) (hall : ∀ a b, K.ok a → f a = some b → ∃ e ∈ es.toList, e.key = K.kf a)
    {a : α} (ha : K.ok a) (b : β) {j : Nat} {e : MapEntry} (hj : es.toList[j]? = some e) (he : e.key = K.kf a) (g : MapEntry → MapEntry) (hg : ∀ x, (g x).born = x.born) (hgk : (g e).key = K.kf a) (hgv : (g e).val = K.vf b)
    (hgs : ∀ x ∈ es.toList, (g x).key = K.kf a ∨ (g x).key = x.key) : Mq K (setBlock w m (.map (es.modify j g) clock)) m (upd f a b) := by
  have hej : es[j]? = some e := by rw [← Array.getElem?_toList]; exact hj
  have hnd : es.toList.Pairwise (fun x y => x.key ≠ y.key) := ((stamped_iff es clock).1 hst).2.2
  refine ⟨_, _, heap_setBlock_same hb _, stamped_modify hst j g (fun x _ => hg x) (fun x _ hx => ?_), fun x hx => ?_, fun a' b' ha' h' => ?_⟩
  · rw [hej] at hx
    injection hx with hx
    rw [← hx, hgk, he]
  · obtain ⟨i, hi⟩ := List.mem_iff_getElem?.1 hx
    rw [Array.getElem?_toList, Array.getElem?_modify] at hi
    by_cases hij : j = i
    · subst hij
      rw [if_pos rfl, hej] at hi
      simp only [Option.map_some, Option.some.injEq] at hi
      subst hi
      exact ⟨a, b, ha, hgk, hgv, by simp [upd]⟩
    · rw [if_neg hij, ← Array.getElem?_toList] at hi
      obtain ⟨a', b', h1, h2, h3, h4⟩ := hes x (List.mem_of_getElem? hi)
      refine ⟨a', b', h1, h2, h3, ?_⟩
      have : a' ≠ a := fun e1 => by
        subst e1
        have hlt1 := (List.getElem?_eq_some_iff.1 hi).1
        have hlt2 := (List.getElem?_eq_some_iff.1 hj).1
        have g1 := (List.getElem?_eq_some_iff.1 hi).2
        have g2 := (List.getElem?_eq_some_iff.1 hj).2
        have hp := List.pairwise_iff_getElem.1 hnd
        rcases Nat.lt_or_gt_of_ne hij with h5 | h5
        · have := hp j i hlt2 hlt1 h5
          rw [g1, g2] at this
          exact this (he.trans h2.symm)
        · have := hp i j hlt1 hlt2 h5
          rw [g1, g2] at this
          exact this (h2.trans he.symm)
      simp [upd, this, h4]
  · by_cases e1 : a' = a
    · subst e1
      refine ⟨g e, List.mem_of_getElem? (i := j) ?_, hgk⟩
      rw [Array.getElem?_toList, Array.getElem?_modify, if_pos rfl, hej]
      rfl
    · simp [upd, e1] at h'
      obtain ⟨x, hx, h2⟩ := hall a' b' ha' h'
      obtain ⟨i, hi⟩ := List.mem_iff_getElem?.1 hx
      have hij : j ≠ i := fun e3 => by
        subst e3
        rw [hj] at hi
        injection hi with hi
        subst hi
        exact e1 (G.inj _ _ (h2.symm.trans he))
      refine ⟨x, List.mem_of_getElem? (i := i) ?_, h2⟩
      rw [Array.getElem?_toList, Array.getElem?_modify, if_neg hij, ← Array.getElem?_toList]
      exact hi
/-- m[a] = b -/
theorem Mq.store (h : Mq K w m f) (G : K.Good P) {a : α} (ha : K.ok a) (b : β) : ∃ w', (Instr.mapUpdate K.t (.map (some m)) (K.kf a) (K.vf b)).run P w = .ok () w' ∧ Mq K w' m (upd f a b) ∧ w.grownBy w' (some m) := by
  obtain ⟨es, clock, hb, hst, hes, hall⟩ := h
  obtain ⟨l, hl⟩ := G.hk a ha
  rcases Mq.find G hes hall w ha with ⟨h1, h2, h3⟩ | ⟨j, e, b0, h1, hj, he, h4, h5⟩
  · refine ⟨_, ?_, mq_push hb hst hes hall ha b h3, mq_set_grown hb _⟩
    simp [Instr.mapUpdate, run_underlying G.ht, MapKept.run_getObj_map hb, G.law.check w _ hl, h1, MapKept.run_setObj_map _ hb, Result.andThen, setBlock]
  · have hej : es[j]? = some e := by rw [← Array.getElem?_toList]; exact hj
    refine ⟨_, ?_, mq_mod G hb hst hes hall ha b hj he (fun e => { e with key := K.kf a, val := K.vf b }) (fun _ => rfl) rfl rfl (fun _ _ => .inl rfl), mq_set_grown hb _⟩
    simp [Instr.mapUpdate, run_underlying G.ht, MapKept.run_getObj_map hb, G.law.check w _ hl, h1, hej, he, G.law.stays w hl, MapKept.run_setObj_map _ hb, Result.andThen, setBlock]
/-- an entry is taken, and then stored to -/
theorem Mq.entry (h : Mq K w m f) (G : K.Good P) {a : α} (ha : K.ok a) (b0 : β) (hz0 : K.vf b0 = K.z) : ∃ (st : Nat) (w1 : World), (Instr.mapEntry K.t (.map (some m)) (K.kf a)).run P w = .ok (.tuple #[K.get f a, goInt st]) w1 ∧ w.grownBy w1 (some m) ∧
    (∃ f1, Mq K w1 m f1 ∧ K.get f1 a = K.get f a) ∧
    ∀ (w2 : World) (b : β), w2.heap[m]? = w1.heap[m]? → ∃ w3, (Instr.entryStore K.t (.map (some m)) (goInt st) (K.vf b)).run P w2 = .ok () w3 ∧ Mq K w3 m (upd f a b) ∧ w2.grownBy w3 (some m) := by
  obtain ⟨es, clock, hb, hst, hes, hall⟩ := h
  obtain ⟨l, hl⟩ := G.hk a ha
  have s1 := hst.1
  have s2 := hst.2.1
  rcases Mq.find G hes hall w ha with ⟨h1, h2, h3⟩ | ⟨j, e, b1, h1, hj, he, h4, h5⟩
  · have hz : K.get f a = K.z := by simp [Mk.get, h2]
    refine ⟨clock, setBlock w m (.map (es.push { key := K.kf a, val := K.z, born := clock }) (clock + 1)), ?_, mq_set_grown hb _, ⟨upd f a b0, ?_, ?_⟩, fun w2 b hw2 => ⟨setBlock w2 m (.map (es.push { key := K.kf a, val := K.vf b, born := clock }) (clock + 1)), ?_, ?_, ?_⟩⟩
    · rw [hz]
      simp [Instr.mapEntry, run_underlying G.ht, MapKept.run_getObj_map hb, G.law.check w _ hl, h1, G.hz, MapKept.run_setObj_map _ hb, Result.andThen, setBlock]
    · rw [← hz0]
      exact mq_push hb hst hes hall ha b0 h3
    · rw [hz]; simp [Mk.get, upd, hz0]
    · rw [heap_setBlock_same hb] at hw2
      have hidx : (es.push ⟨K.kf a, K.z, clock⟩).findIdx? (fun e => ((e.born : Nat) : Int) == ((clock : Nat) : Int)) = some es.size := by
        rw [WideElems.findIdx_arr]
        have := WideElems.findIdx_born (l := (es.push ⟨K.kf a, K.z, clock⟩).toList) (j := es.size) (e0 := ⟨K.kf a, K.z, clock⟩) (by
          simp only [Array.toList_push, List.map_append, List.map_cons, List.map_nil]
          refine List.nodup_append.2 ⟨s2, by simp, fun a ha c hc e1 => ?_⟩
          simp only [List.mem_singleton] at hc
          obtain ⟨x, hx, rfl⟩ := List.mem_map.1 ha
          have := s1 x hx
          omega) (by simp)
        exact this
      have hmod : (es.push ⟨K.kf a, K.z, clock⟩).modify es.size (fun e => { e with val := K.vf b }) = es.push ⟨K.kf a, K.vf b, clock⟩ := by
        apply Array.ext'
        rw [Array.toList_modify, Array.toList_push, Array.toList_push, ← Array.length_toList, WideElems.modify_last]
      simp [Instr.entryStore, MapKept.run_getObj_map hw2, asInt, asIntOf, goInt, hidx, hmod, MapKept.run_setObj_map _ hw2, Result.andThen, setBlock]
    · rw [heap_setBlock_same hb] at hw2
      have := mq_push (w := setBlock w2 m (.map es clock)) (heap_setBlock_same hw2 _) hst hes hall ha b h3
      refine this.keep ?_
      rw [heap_setBlock_same hw2, heap_setBlock_same (heap_setBlock_same hw2 _)]
    · rw [heap_setBlock_same hb] at hw2
      exact mq_set_grown hw2 _
  · have hz : K.get f a = e.val := by simp [Mk.get, h5, h4]
    have hej : es[j]? = some e := by rw [← Array.getElem?_toList]; exact hj
    have hsame : es.modify j (fun e => { e with key := K.kf a }) = es := by
      apply Array.ext'
      rw [Array.toList_modify, modify_eq_set _ _ _ _ hj]
      have : ({ e with key := K.kf a } : MapEntry) = e := by rw [← he]
      rw [this]
      exact WideElems.set_self _ _ _ hj
    refine ⟨e.born, setBlock w m (.map es clock), ?_, mq_set_grown hb _, ⟨f, ⟨es, clock, heap_setBlock_same hb _, hst, hes, hall⟩, rfl⟩, fun w2 b hw2 => ⟨setBlock w2 m (.map (es.modify j fun e => { e with val := K.vf b }) clock), ?_, ?_, ?_⟩⟩
    · rw [hz]
      simp [Instr.mapEntry, run_underlying G.ht, MapKept.run_getObj_map hb, G.law.check w _ hl, h1, hej, he, G.law.stays w hl, hsame, MapKept.run_setObj_map _ hb, Result.andThen, setBlock]
    · rw [heap_setBlock_same hb] at hw2
      have hidx : es.findIdx? (fun e' => ((e'.born : Nat) : Int) == ((e.born : Nat) : Int)) = some j := by
        rw [WideElems.findIdx_arr]
        exact WideElems.findIdx_born s2 hj
      simp [Instr.entryStore, MapKept.run_getObj_map hw2, asInt, asIntOf, goInt, hidx, MapKept.run_setObj_map _ hw2, Result.andThen, setBlock]
    · rw [heap_setBlock_same hb] at hw2
      exact mq_mod G hw2 hst hes hall ha b hj he (fun e => { e with val := K.vf b }) (fun _ => rfl) he rfl (fun _ _ => .inr rfl)
    · rw [heap_setBlock_same hb] at hw2
      exact mq_set_grown hw2 _
end
end Go.Proofs.Ytjfgmdiafhkbgaa
