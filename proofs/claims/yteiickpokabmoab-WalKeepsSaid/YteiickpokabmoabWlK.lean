import Derived.Test.YteiickpokabmoabWlJ
namespace Go.Proofs.Yteiickpokabmoab
open Go.RowKit Go.Shelf
open Wl (Hd WS Log)

theorem heap_set_self (w : World) (g o : Nat) (v : Value) (cur : Array Value) (t : TypeId) (fr : Nat × Nat) (h : w.heap[g]? = some (.cells cur t fr)) : (w.setCell ⟨g, o, none⟩ v).heap[g]? = some (.cells (cur.setIfInBounds o v) t fr) := by
  have hlt := lt_of_block h
  have h' : w.heap[g] = .cells cur t fr := by simpa [Array.getElem?_eq_getElem hlt] using h
  show (w.heap.modify g _)[g]? = _
  rw [Array.getElem?_eq_getElem (by simpa using hlt), Array.getElem_modify_self, h']
  rfl
theorem setCell_self {w : World} {g o : Nat} {cs : Array Value} {t : TypeId} (h : w.heap[g]? = some (.cells cs t (0, 0))) (v : Value) : (w.setCell ⟨g, o, none⟩ v).heap[g]? = some (.cells (cs.setIfInBounds o v) t (0, 0)) := heap_set_self w g o v cs t (0, 0) h
theorem set6 {w : World} {Q : Nat} {a b c d e f a' b' c' d' e' f' : Value} {t : TypeId} (h : w.heap[Q]? = some (.cells #[a, b, c, d, e, f] t (0, 0))) :
    ((((((w.setCell ⟨Q, 0, none⟩ a').setCell ⟨Q, 1, none⟩ b').setCell ⟨Q, 2, none⟩ c').setCell ⟨Q, 3, none⟩ d').setCell ⟨Q, 4, none⟩ e').setCell ⟨Q, 5, none⟩ f').heap[Q]? = some (.cells #[a', b', c', d', e', f'] t (0, 0)) := by
  rw [setCell_self (setCell_self (setCell_self (setCell_self (setCell_self (setCell_self h a') b') c') d') e') f']
  rfl
theorem far6 {w : World} {Q k : Nat} (h : k ≠ Q) (a b c d e f : Value) : ((((((w.setCell ⟨Q, 0, none⟩ a).setCell ⟨Q, 1, none⟩ b).setCell ⟨Q, 2, none⟩ c).setCell ⟨Q, 3, none⟩ d).setCell ⟨Q, 4, none⟩ e).setCell ⟨Q, 5, none⟩ f).heap[k]? = w.heap[k]? := by
  iterate 6 rw [Below.heap_setCell _ _ _ _ h]
theorem bel6 {w0 w : World} {B Q : Nat} (h : Below B w0 w) (hQ : B ≤ Q) (a b c d e f : Value) : Below B w0 ((((((w.setCell ⟨Q, 0, none⟩ a).setCell ⟨Q, 1, none⟩ b).setCell ⟨Q, 2, none⟩ c).setCell ⟨Q, 3, none⟩ d).setCell ⟨Q, 4, none⟩ e).setCell ⟨Q, 5, none⟩ f) :=
  (((((h.setCell hQ _).setCell hQ _).setCell hQ _).setCell hQ _).setCell hQ _).setCell hQ _
theorem find_no {base : Nat} {w : World} {b : Nat} {F : Nat → Prop} {d : D.DS} (h : D.Dk base w b F d) (hd : d.dead = false) (hf : ¬ Wl.Fits d.S.length) :
    Calls Try.prog 29 #[.pointer (some ⟨b, 0, none⟩)] w fun e w' => Below w.heap.size w w' ∧ e = .returned (.tuple #[.agg zeroLog, .int .i64 91]) := by
  have HDd := hide (D.dead_any (h.alloc (.cells zeroLog 63)))
  have HFi := hide (fits_any (h.alloc (.cells zeroLog 63)))
  rw [hd] at HDd
  rw [decide_eq_false hf] at HFi
  clear h
  unfold zeroLog at *
  go_enter Try.func29, Try.ntmps29
  go_wp2_with fail
  refine HDd.out.mono ?_
  rintro e w' ⟨rfl, rfl⟩
  go_wp2_with fail
  refine HFi.out.mono ?_
  rintro e w' ⟨rfl, rfl⟩
  go_wp2_with fail
  exact bodyPost_ret (v := .tuple #[.agg zeroLog, .int .i64 91]) (by simp [results, Try.results29, go_sem, zeroLog]) rfl ⟨below_alloc w _, rfl⟩
theorem Best.num {B Q : Nat} {x : Option Log} {w : World} (h : Best B Q x w) : w.cell? ⟨Q, 0, none⟩ = some (.int .u64 (numO x : Int)) := by
  cases x with
  | none => unfold World.cell?; rw [show w.heap[Q]? = _ from h]; rfl
  | some L => obtain ⟨v, h1, _⟩ := h; unfold World.cell?; rw [h1]; rfl
theorem Best.block {B Q : Nat} {x : Option Log} {w : World} (h : Best B Q x w) : ∃ a b c d e f, w.heap[Q]? = some (.cells #[a, b, c, d, e, f] 63 (0, 0)) := by
  cases x with
  | none => exact ⟨_, _, _, _, _, _, h⟩
  | some L => obtain ⟨v, h1, _⟩ := h; exact ⟨_, _, _, _, _, _, h1⟩
end Go.Proofs.Yteiickpokabmoab
