import Derived.Test.YtfimonkkechjfaaRcCb
import Derived.Deep.DeepAppendRoom
import Derived.Laws.AppendOwnNone
import Derived.Laws.MakeOwn
import Derived.Laws.OwnMore
namespace Go.Proofs.Ytfimonkkechjfaa
open Go.RowKit
open Rc (L V Ch)

theorem own_keepC {w w' : World} {B : Nat} {e : TypeId} {size n : Nat} {v : Value} {xs : List Value} (h : w.ownsRow B e size v n xs) (hk : ∀ k, v.ownBlock = some k → w'.heap[k]? = w.heap[k]?) : w'.ownsRow B e size v n xs := by
  refine ⟨h.1, ?_⟩
  rcases h.2 with h1 | ⟨g, cap, cur, rfl, hg, hb, h2⟩
  · exact .inl h1
  · exact .inr ⟨g, cap, cur, rfl, hg, (hk g rfl).trans hb, h2⟩
theorem own_baseC {w : World} {B base : Nat} {e : TypeId} {size n : Nat} {v : Value} {xs : List Value} (h : w.ownsRow B e size v n xs) (hb : base ≤ B) : w.ownsRow base e size v n xs := by
  refine ⟨h.1, ?_⟩
  rcases h.2 with h1 | ⟨g, cap, cur, rfl, hg, h2⟩
  · exact .inl h1
  · exact .inr ⟨g, cap, cur, rfl, Nat.le_trans hb hg, h2⟩
/-- a copy under way: its row, its texts -/
structure CpI (w0 : World) (A cap : Nat) (vals : List (Ch × Value)) (w : World) : Prop where
  own : w.ownsRow w0.heap.size 27 10 (.slice (some ⟨A, 0, none⟩) vals.length cap) vals.length (flatV vals)
  txt : ∀ x ∈ vals, w.ownsRow w0.heap.size 9 1 x.2 x.1.tx.length (strs x.1.tx)
  bel : Below w0.heap.size w0 w
theorem CpI.block {w0 : World} {A cap : Nat} {vals : List (Ch × Value)} {w : World} (h : CpI w0 A cap vals w) : ∃ cur, w.heap[A]? = some (.cells cur 27 (0, 0)) := by
  rcases h.own.2 with ⟨h1, _⟩ | ⟨g, c, cur, h1, hg, hb, h2⟩
  · cases h1
  · injection h1 with h1; injection h1 with h1; injection h1 with h1; subst h1; exact ⟨cur, hb⟩
theorem CpI.lt {w0 : World} {A cap : Nat} {vals : List (Ch × Value)} {w : World} (h : CpI w0 A cap vals w) : A < w.heap.size := by obtain ⟨c, hc⟩ := h.block; exact lt_of_block hc
/-- blocks that are not its own may turn -/
theorem CpI.step {w0 : World} {A cap : Nat} {vals : List (Ch × Value)} {w w' : World} (h : CpI w0 A cap vals w) (hb : Below w.heap.size w w') : CpI w0 A cap vals w' :=
  ⟨own_keepC h.own fun k hk => hb.block k (h.own.lt k hk).2, fun x hx => own_keepC (h.txt x hx) fun k hk => hb.block k ((h.txt x hx).lt k hk).2, h.bel.trans (hb.mono h.bel.size)⟩
theorem grownB {w w' : World} {r : Option Nat} (h : w.grownBy w' r) {B : Nat} (hB : B ≤ w.heap.size) (hr : ∀ k, r = some k → B ≤ k) : Below B w w' :=
  ⟨h.os, h.tape, h.output, h.size, fun k hk => h.block k (by omega) (fun e => absurd (hr k e.symm) (by omega))⟩
/-- one more -/
theorem CpI.more {w0 : World} {A cap : Nat} {vals : List (Ch × Value)} {w w' : World} {c : Ch} {t : Value} (h : CpI w0 A cap vals w) (ht : w.ownsRow w0.heap.size 9 1 t c.tx.length (strs c.tx))
    (ho : w'.ownsRow w0.heap.size 27 10 (.slice (some ⟨A, 0, none⟩) (vals.length + 1) cap) (vals.length + 1) (flatV vals ++ (chC c t).toList)) (hg : w.grownBy w' (some A)) (hA : w0.heap.size ≤ A) : CpI w0 A cap (vals ++ [(c, t)]) w' := by
  obtain ⟨cur, hcur⟩ := h.block
  have hs : ∀ (v : Value) (n : Nat) (xs : List Value), w.ownsRow w0.heap.size 9 1 v n xs → w'.ownsRow w0.heap.size 9 1 v n xs := fun v n xs hv => own_keepC hv fun k hk => hg.block k (hv.lt k hk).2 (fun e => by
    injection e with e; subst e
    exact own_typeS hv hcur (by decide) hk.symm)
  refine ⟨by rw [List.length_append, List.length_singleton, flatV_snoc]; exact ho, fun x hx => ?_, h.bel.trans (grownB hg h.bel.size (fun k e => by injection e with e; omega))⟩
  rcases List.mem_append.mp hx with hx | hx
  · exact hs _ _ _ (h.txt x hx)
  · rw [List.mem_singleton.mp hx]; exact hs _ _ _ ht
end Go.Proofs.Ytfimonkkechjfaa
