import Derived.Test.YtjabnddjahhgoaaRcH
import Derived.Test.YtjabnddjahhgoaaRcE
namespace Go.Proofs.Ytjabnddjahhgoaa
open Go.RowKit
open Rc (L V Ch)

def kW : L → FuncId
  | .P => 74 | .T => 75 | .R => 73 | _ => 76
def stW (c : Ch) (l : L) (acc : List UInt8) : Option (List UInt8) := some (acc ++ Rc.lay l (Rc.get l c))
def okW (c : Ch) (l : L) (acc : List UInt8) : Prop := Rc.may l (Rc.get l c) = true ∧ acc.length ≤ 90000000
theorem runL_W (c : Ch) (ls : List L) : ∀ acc, runL (stW c) ls acc = some (acc ++ Rc.body c ls) := by
  induction ls with
  | nil => intro acc; simp [runL, Rc.body]
  | cons l ls ih => intro acc; simp only [runL, stW, Option.bind_some]; rw [ih]; simp [Rc.body]
theorem okAll_W (c : Ch) (ls : List L) (hm : ∀ l ∈ ls, Rc.may l (Rc.get l c) = true) : ∀ acc : List UInt8, acc.length + ls.length * 1100 ≤ 90000000 → okAll (okW c) (stW c) ls acc := by
  induction ls with
  | nil => intro acc _; trivial
  | cons l ls ih =>
    intro acc h
    rw [List.length_cons] at h
    refine ⟨⟨hm l List.mem_cons_self, by omega⟩, fun s' hs => ?_⟩
    simp only [stW, Option.some.injEq] at hs
    rw [← hs]
    have := lay_len (hm l List.mem_cons_self)
    exact ih (fun l' h' => hm l' (List.mem_cons_of_mem _ h')) _ (by rw [List.length_append]; omega)
theorem writerV {w0 : World} {A G : Nat} {c : Ch} {t : Value} (hT : Tx w0 t c.tx) (hr : c.rb < 18446744073709551616) : Visitor A 0 c.k 60 (.pointer (some ⟨G, 0, none⟩)) (.pointer (some ⟨G, 0, none⟩)) kW (fun acc w => Wt w0.heap.size A G c t acc w ∧ Below w0.heap.size w0 w) (fun _ => True) (stW c) (okW c) where
  kind := fun s w h => h.1.ca.c0
  drew := fun s w h => ⟨h.1.drew, h.2.drew⟩
  ahead := fun l w => by cases l <;> kernel_rfl
  meth := fun l w => by cases l <;> kernel_rfl
  run := fun l args w => by cases l <;> rfl
  call := fun l s w hok h => by
    cases l
    case P => exact (wtext_any h.1 _ _ hok.1 hok.2).mono fun _ _ h' => ⟨h'.1, h'.2.1, h.2.trans h'.2.2⟩
    case T => exact (wtexts_any h.1 h.2 hT hok.1 hok.2).mono fun _ _ h' => ⟨h'.1, h'.2⟩
    case R => exact (wresult_any h.1 hok.1 hr hok.2).mono fun _ _ h' => ⟨h'.1, h'.2.1, h.2.trans h'.2.2⟩
    all_goals exact (wwhole_any h.1 rfl _ _ hok.1 hok.2).mono fun _ _ h' => ⟨h'.1, h'.2.1, h.2.trans h'.2.2⟩
theorem wvisit_any {w0 w : World} {A G : Nat} {acc : List UInt8} {c : Ch} {t : Value} (h : Wt w0.heap.size A G c t acc w) (hB : Below w0.heap.size w0 w) (hT : Tx w0 t c.tx) (hr : c.rb < 18446744073709551616) (hc : Rc.Ok c) (hl : acc.length ≤ 80000000) :
    Calls Try.prog 22 #[.pointer (some ⟨A, 0, none⟩), .iface 60 (.pointer (some ⟨G, 0, none⟩))] w fun e w' => e = .returned (.tuple #[]) ∧ Wt w0.heap.size A G c t (acc ++ Rc.body c (Rc.letters c.k)) w' ∧ Below w0.heap.size w0 w' := by
  have h4 : (Rc.letters c.k).length ≤ 4 := by unfold Rc.letters; (repeat' split) <;> simp
  refine (visit_gen (writerV (w0 := w0) (A := A) (G := G) hT hr) acc w ⟨h, hB⟩ (okAll_W c _ hc.2.1 acc (by omega)) hc.1).mono ?_
  intro e w' hv
  rw [runL_W] at hv
  exact hv
/-- a row of changes in memory -/
structure Rw (w : World) (v : Value) (l : List Ch) : Prop where
  form : ∃ p cap, v = .slice p l.length cap ∧ (0 < l.length → ∃ b off, p = some ⟨b, off, none⟩ ∧ b < w.heap.size ∧ ∀ j, j < l.length → ∃ t, Tx w t (l[j]!).tx ∧ (l[j]!).tx.length ≤ 140737488351232 ∧ (l[j]!).rb < 18446744073709551616 ∧ ∀ i u, (chC l[j]! t)[i]? = some u → w.cell? ⟨b, off + j * 10 + i, none⟩ = some u)
theorem Rw.below {w w' : World} {v : Value} {l : List Ch} (h : Rw w v l) {n : Nat} (hb : Below n w w') (hn : w.heap.size ≤ n) : Rw w' v l := by
  obtain ⟨p, cap, hv, h2⟩ := h
  refine ⟨p, cap, hv, fun h0 => ?_⟩
  obtain ⟨b, off, hp, hlt, hc⟩ := h2 h0
  refine ⟨b, off, hp, Nat.lt_of_lt_of_le hlt hb.size, fun j hj => ?_⟩
  obtain ⟨t, ht, h1, h2, h3⟩ := hc j hj
  exact ⟨t, ht.below hb hn, h1, h2, fun i u hi => (hb.cell (p := ⟨b, off + j * 10 + i, none⟩) (Nat.lt_of_lt_of_le hlt hn)).trans (h3 i u hi)⟩
theorem all_step {l : List Ch} {k : Nat} (h : k < l.length) : Rc.all (l.take (k + 1)) = Rc.all (l.take k) ++ Rc.bytes l[k]! := by
  rw [← List.take_append_getElem h, getElem!_pos l k h]; simp only [Rc.all, List.flatMap_append, List.flatMap_cons, List.flatMap_nil, List.append_nil]
theorem body_len (c : Ch) (ls : List L) (hm : ∀ l ∈ ls, Rc.may l (Rc.get l c) = true) : (Rc.body c ls).length ≤ ls.length * 1100 := by
  induction ls with
  | nil => simp [Rc.body]
  | cons l ls ih =>
    have h1 := lay_len (hm l List.mem_cons_self)
    have h2 := ih fun l' h' => hm l' (List.mem_cons_of_mem _ h')
    have e : (Rc.body c (l :: ls)).length = (Rc.lay l (Rc.get l c)).length + (Rc.body c ls).length := by simp [Rc.body]
    rw [e, List.length_cons]; omega
theorem bytes_len {c : Ch} (h : Rc.Ok c) : (Rc.bytes c).length ≤ 5000 := by
  have h4 : (Rc.letters c.k).length ≤ 4 := by unfold Rc.letters; (repeat' split) <;> simp
  have := body_len c _ h.2.1
  have h10 := Pk.enc_ten (n := c.k.toNat) (by have := h.1; omega)
  simp only [Rc.bytes, List.length_append]; omega
theorem all_len (l : List Ch) (h : ∀ c ∈ l, Rc.Ok c) : (Rc.all l).length ≤ l.length * 5000 := by
  induction l with
  | nil => simp [Rc.all]
  | cons c l ih =>
    have h1 := bytes_len (h c List.mem_cons_self)
    have h2 := ih fun x hx => h x (List.mem_cons_of_mem _ hx)
    have e : (Rc.all (c :: l)).length = (Rc.bytes c).length + (Rc.all l).length := by simp [Rc.all]
    rw [e, List.length_cons]; omega
end Go.Proofs.Ytjabnddjahhgoaa
