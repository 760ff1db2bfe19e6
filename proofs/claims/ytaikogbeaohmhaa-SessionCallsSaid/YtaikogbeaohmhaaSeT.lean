import Derived.Test.YtaikogbeaohmhaaSeQ
import Derived.Test.YtaikogbeaohmhaaSeAn
namespace Go.Proofs.Ytaikogbeaohmhaa
open Go.RowKit

/-- the document's caller: its cells; l: its last number -/
def xC (c : Cl) (l : Int) : List Value := [.int .i64 c.rs, .int .i64 c.se, .int .i64 l, .int .i64 c.ti, .int .i64 c.gr, .int .i64 c.m.k, .int .i64 c.m.se, .int .i64 c.m.nu, .int .i64 c.m.jo, .int .i64 c.m.ba, .int .i64 c.m.ix, .int .i64 c.m.co, .int .i64 c.m.rc, .int .u64 (c.m.rb : Int), .string c.m.tx, .string c.m.pr]
/-- so it lies in a row -/
structure Xb (w : World) (g o : Nat) (A : List Value) : Prop where
  blk : ∃ cs, w.heap[g]? = some (.cells cs 38 (0, 0)) ∧ ∀ j, j < 16 → cs[o + j]? = A[j]?
  len : A.length = 16
theorem Xb.c {w : World} {g o : Nat} {A : List Value} (h : Xb w g o A) (j : Nat) (hj : j < 16) : w.cell? ⟨g, o + j, none⟩ = A[j]? := by
  obtain ⟨cs, h1, h2⟩ := h.blk
  rw [← h2 j hj]
  simp [World.cell?, h1]
theorem Xb.z {w : World} {g o : Nat} {A : List Value} (h : Xb w g o A) (k : Nat) : w.frozen? ⟨g, k, none⟩ = false := by
  obtain ⟨cs, h1, _⟩ := h.blk
  simp [World.frozen?, h1]
theorem Xb.lt {w : World} {g o : Nat} {A : List Value} (h : Xb w g o A) : g < w.heap.size := by
  obtain ⟨cs, h1, _⟩ := h.blk
  exact lt_of_block h1
theorem Xb.keep {w w' : World} {g o : Nat} {A : List Value} (h : Xb w g o A) (hk : w'.heap[g]? = w.heap[g]?) : Xb w' g o A := by
  obtain ⟨cs, h1, h2⟩ := h.blk
  exact ⟨⟨cs, hk.trans h1, h2⟩, h.len⟩
theorem Xb.below {w w' : World} {g o : Nat} {A : List Value} (h : Xb w g o A) (hb : Below w.heap.size w w') : Xb w' g o A := h.keep (hb.block _ h.lt)
theorem Xb.alloc {w : World} {g o : Nat} {A : List Value} (h : Xb w g o A) (ob : Obj) : Xb (w.alloc ob) g o A := h.below (below_alloc w ob)
theorem Xb.set {w : World} {g o : Nat} {A : List Value} (h : Xb w g o A) (j : Nat) (hj : j < 16) (v : Value) : Xb (w.setCell ⟨g, o + j, none⟩ v) g o (A.set j v) := by
  obtain ⟨cs, h1, h2⟩ := h.blk
  refine ⟨⟨cs.setIfInBounds (o + j) v, heap_set_self w g (o + j) v cs _ _ h1, fun i hi => ?_⟩, by rw [List.length_set]; exact h.len⟩
  have hl := h.len
  have hcs : o + j < cs.size := by
    have := h2 j hj
    rw [List.getElem?_eq_getElem (by omega)] at this
    exact (Array.getElem?_eq_some_iff.1 this).1
  by_cases he : i = j
  · subst he
    rw [List.getElem?_set_self (by omega), Array.getElem?_setIfInBounds_self_of_lt hcs]
  · rw [List.getElem?_set_ne (Ne.symm he), Array.getElem?_setIfInBounds_ne (by omega)]
    exact h2 i hi
theorem Xb.set0 {w : World} {g o : Nat} {A : List Value} (h : Xb w g o A) (v : Value) : Xb (w.setCell ⟨g, o, none⟩ v) g o (A.set 0 v) := h.set 0 (by decide) v
/-- only these sixteen cells are turned -/
structure Xo (g o : Nat) (w w' : World) : Prop where
  os : w'.os = w.os
  tape : w'.tape = w.tape
  output : w'.output = w.output
  size : w.heap.size ≤ w'.heap.size
  block : ∀ k, k < w.heap.size → k ≠ g → w'.heap[k]? = w.heap[k]?
  row : ∀ cs t, w.heap[g]? = some (.cells cs t (0, 0)) → ∃ cs', w'.heap[g]? = some (.cells cs' t (0, 0)) ∧ cs'.size = cs.size ∧ ∀ i, i < o ∨ o + 16 ≤ i → cs'[i]? = cs[i]?
theorem Xo.refl (g o : Nat) (w : World) : Xo g o w w := ⟨rfl, rfl, rfl, Nat.le_refl _, fun _ _ _ => rfl, fun cs _ h => ⟨cs, h, rfl, fun _ _ => rfl⟩⟩
theorem Xo.set {g o : Nat} {w w' : World} (h : Xo g o w w') (j : Nat) (hj : j < 16) (v : Value) : Xo g o w (w'.setCell ⟨g, o + j, none⟩ v) :=
  ⟨h.os, h.tape, h.output, by rw [setCell_size]; exact h.size, fun k hk hn => (Below.heap_setCell _ _ _ k hn).trans (h.block k hk hn), fun cs t hc => by
    obtain ⟨cs', h1, h2, h3⟩ := h.row cs t hc
    exact ⟨cs'.setIfInBounds (o + j) v, heap_set_self w' g (o + j) v cs' _ _ h1, by rw [Array.size_setIfInBounds]; exact h2, fun i hi => by rw [Array.getElem?_setIfInBounds_ne (by omega)]; exact h3 i hi⟩⟩
theorem Xo.alloc {g o : Nat} {w w' : World} (h : Xo g o w w') (hg : g < w.heap.size) (ob : Obj) : Xo g o w (w'.alloc ob) :=
  ⟨h.os, h.tape, h.output, by rw [World.size_alloc]; have := h.size; omega, fun k hk hn => (Below.heap_alloc _ _ _ (Nat.lt_of_lt_of_le hk h.size)).trans (h.block k hk hn), fun cs t hc => by
    obtain ⟨cs', h1, h2, h3⟩ := h.row cs t hc
    exact ⟨cs', (Below.heap_alloc _ _ _ (Nat.lt_of_lt_of_le hg h.size)).trans h1, h2, h3⟩⟩
theorem Xo.drewN {g o : Nat} {w w' : World} (h : Xo g o w w') (n : Nat) : Xo g o w (w'.drewN n) := ⟨h.os, h.tape, h.output, h.size, h.block, h.row⟩
theorem Xb.drewN {w : World} {g o : Nat} {A : List Value} (h : Xb w g o A) (n : Nat) : Xb (w.drewN n) g o A := h.keep rfl
section
variable {w : World} {g o : Nat} {c : Cl} {l : Int}
theorem xC_len (c : Cl) (l : Int) : (xC c l).length = 16 := rfl
theorem Xb.f0 (h : Xb w g o (xC c l)) : w.cell? ⟨g, o, none⟩ = some (.int .i64 c.rs) := h.c 0 (by decide)

theorem Xb.f1 (h : Xb w g o (xC c l)) : w.cell? ⟨g, o + 1, none⟩ = some (.int .i64 c.se) := h.c 1 (by decide)
theorem Xb.f2 (h : Xb w g o (xC c l)) : w.cell? ⟨g, o + 2, none⟩ = some (.int .i64 l) := h.c 2 (by decide)
theorem Xb.f3 (h : Xb w g o (xC c l)) : w.cell? ⟨g, o + 3, none⟩ = some (.int .i64 c.ti) := h.c 3 (by decide)
theorem Xb.f4 (h : Xb w g o (xC c l)) : w.cell? ⟨g, o + 4, none⟩ = some (.int .i64 c.gr) := h.c 4 (by decide)
theorem Xb.f5 (h : Xb w g o (xC c l)) : w.cell? ⟨g, o + 5, none⟩ = some (.int .i64 c.m.k) := h.c 5 (by decide)
theorem Xb.f6 (h : Xb w g o (xC c l)) : w.cell? ⟨g, o + 6, none⟩ = some (.int .i64 c.m.se) := h.c 6 (by decide)
theorem Xb.f7 (h : Xb w g o (xC c l)) : w.cell? ⟨g, o + 7, none⟩ = some (.int .i64 c.m.nu) := h.c 7 (by decide)
theorem Xb.f8 (h : Xb w g o (xC c l)) : w.cell? ⟨g, o + 8, none⟩ = some (.int .i64 c.m.jo) := h.c 8 (by decide)
theorem Xb.f9 (h : Xb w g o (xC c l)) : w.cell? ⟨g, o + 9, none⟩ = some (.int .i64 c.m.ba) := h.c 9 (by decide)
theorem Xb.f10 (h : Xb w g o (xC c l)) : w.cell? ⟨g, o + 10, none⟩ = some (.int .i64 c.m.ix) := h.c 10 (by decide)
theorem Xb.f11 (h : Xb w g o (xC c l)) : w.cell? ⟨g, o + 11, none⟩ = some (.int .i64 c.m.co) := h.c 11 (by decide)
theorem Xb.f12 (h : Xb w g o (xC c l)) : w.cell? ⟨g, o + 12, none⟩ = some (.int .i64 c.m.rc) := h.c 12 (by decide)
theorem Xb.f13 (h : Xb w g o (xC c l)) : w.cell? ⟨g, o + 13, none⟩ = some (.int .u64 (c.m.rb : Int)) := h.c 13 (by decide)
theorem Xb.f14 (h : Xb w g o (xC c l)) : w.cell? ⟨g, o + 14, none⟩ = some (.string c.m.tx) := h.c 14 (by decide)
theorem Xb.f15 (h : Xb w g o (xC c l)) : w.cell? ⟨g, o + 15, none⟩ = some (.string c.m.pr) := h.c 15 (by decide)
theorem Xb.putM (h : Xb w g o (xC c l)) (m : Sm) : Xb (putM w g (o + 5) m) g o (xC { c with m := m } l) := by
  have h1 := ((((((((((h.set 5 (by decide) (.int .i64 m.k)).set 6 (by decide) (.int .i64 m.se)).set 7 (by decide) (.int .i64 m.nu)).set 8 (by decide) (.int .i64 m.jo)).set 9 (by decide) (.int .i64 m.ba)).set 10 (by decide) (.int .i64 m.ix)).set 11 (by decide) (.int .i64 m.co)).set 12 (by decide) (.int .i64 m.rc)).set 13 (by decide) (.int .u64 (m.rb : Int))).set 14 (by decide) (.string m.tx)).set 15 (by decide) (.string m.pr)
  exact h1
theorem Xo.putM {u : World} (h : Xo g o u w) (m : Sm) : Xo g o u (putM w g (o + 5) m) :=
  ((((((((((h.set 5 (by decide) (.int .i64 m.k)).set 6 (by decide) (.int .i64 m.se)).set 7 (by decide) (.int .i64 m.nu)).set 8 (by decide) (.int .i64 m.jo)).set 9 (by decide) (.int .i64 m.ba)).set 10 (by decide) (.int .i64 m.ix)).set 11 (by decide) (.int .i64 m.co)).set 12 (by decide) (.int .i64 m.rc)).set 13 (by decide) (.int .u64 (m.rb : Int))).set 14 (by decide) (.string m.tx)).set 15 (by decide) (.string m.pr)
theorem Xb.se (h : Xb w g o (xC c l)) (v : Int) : Xb (w.setCell ⟨g, o + 1, none⟩ (.int .i64 v)) g o (xC { c with se := v } l) := h.set 1 (by decide) _
theorem Xb.la (h : Xb w g o (xC c l)) (v : Int) : Xb (w.setCell ⟨g, o + 2, none⟩ (.int .i64 v)) g o (xC c v) := h.set 2 (by decide) _
theorem Xb.ti (h : Xb w g o (xC c l)) (v : Int) : Xb (w.setCell ⟨g, o + 3, none⟩ (.int .i64 v)) g o (xC { c with ti := v } l) := h.set 3 (by decide) _
theorem Xb.gr (h : Xb w g o (xC c l)) (v : Int) : Xb (w.setCell ⟨g, o + 4, none⟩ (.int .i64 v)) g o (xC { c with gr := v } l) := h.set 4 (by decide) _

end
/-- what a call of the document's NewCaller leaves -/
def XPost (x : Int) (w : World) (e : Ending) (w' : World) : Prop :=
  (¬ (1 ≤ x ∧ x ≤ 16) ∧ e = .returned (.tuple #[.pointer none, .int .i64 133]) ∧ w' = w) ∨ ((1 ≤ x ∧ x ≤ 16) ∧ e = .returned (.tuple #[.pointer (some ⟨w.heap.size, 0, none⟩), .int .i64 0]) ∧ w' = w.alloc (.cells (xC (newC x) 0).toArray 38))
set_option maxHeartbeats 1000000 in
theorem xnew_any (w : World) {x : Int} (hx : -9223372036854775808 ≤ x ∧ x ≤ 9223372036854775807) : Calls Try.prog 9 #[.int .i64 x] w (XPost x w) := by
  by_cases h1 : x < 1
  · go_enter Try.func9, Try.ntmps9
    go_wp2
    go_ret2
    exact .inl ⟨by omega, rfl, rfl⟩
  by_cases h2 : 16 < x
  · go_enter Try.func9, Try.ntmps9
    go_wp2
    go_ret2
    exact .inl ⟨by omega, rfl, rfl⟩
  go_enter Try.func9, Try.ntmps9
  go_wp2
  go_ret2
  exact .inr ⟨by omega, rfl, rfl⟩
section
variable {w : World} {g o : Nat} {c : Cl} {l : Int}
set_option maxHeartbeats 1000000 in
theorem xwaits_any (h : Xb w g o (xC c l)) : Calls Try.prog 39 #[.pointer (some ⟨g, o, none⟩)] w fun e w' => e = .returned (.int .i64 c.m.nu) ∧ w' = w := by
  have f7 := h.f7
  go_enter Try.func39, Try.ntmps39
  go_wp2
  go_ret
  exact ⟨rfl, rfl⟩
set_option maxHeartbeats 1000000 in
theorem xtick_any (hk : c.ok) (h : Xb w g o (xC c l)) : Calls Try.prog 35 #[.pointer (some ⟨g, o, none⟩)] w fun e w' => e = .returned (.tuple #[]) ∧ Xb w' g o (xC c.tick l) ∧ Xo g o w w' := by
  have f3 := h.f3
  have z1 := h.z (o + 3)
  have h0 := hk.t0
  have h16 : c.ti ≤ 16 := Int.le_trans hk.t1 hk.r2
  unfold Cl.tick
  clear hk
  have HH := hide h
  clear h
  by_cases ht : 0 < c.ti
  · rw [if_pos ht]
    go_enter Try.func35, Try.ntmps35
    go_wp2
    go_end0
    exact ⟨rfl, HH.out.ti _, (Xo.refl g o w).set 3 (by decide) _⟩
  · rw [if_neg ht]
    go_enter Try.func35, Try.ntmps35
    go_wp2
    go_end0
    exact ⟨rfl, HH.out, Xo.refl g o w⟩
set_option maxHeartbeats 1000000 in
theorem xhello_any (h : Xb w g o (xC c l)) : Calls Try.prog 33 #[.pointer (some ⟨g, o, none⟩)] w fun e w' => e = .returned (.int .i64 c.hello.e) ∧ Xb w' g o (xC c.hello.c (if c.m.k = 0 then 0 else l)) ∧ Xo g o w w' := by
  have f0 := h.f0
  have f1 := h.f1
  have f2 := h.f2
  have f3 := h.f3
  have f4 := h.f4
  have f5 := h.f5
  have f6 := h.f6
  have f7 := h.f7
  have f8 := h.f8
  have f9 := h.f9
  have f10 := h.f10
  have f11 := h.f11
  have f12 := h.f12
  have f13 := h.f13
  have f14 := h.f14
  have f15 := h.f15
  have z := h.z
  have HH := hide h
  unfold Cl.hello
  clear h
  by_cases hk : c.m.k = 0
  · rw [if_pos hk, if_pos hk]
    have hb : (c.m.k != 0) = false := by rw [hk]; rfl
    clear hk
    go_enter Try.func33, Try.ntmps33
    go_wp2
    go_ret
    exact ⟨rfl, (((HH.out.se 0).la 0).ti 0).putM (zS 1), ((((Xo.refl g o w).set 1 (by decide) _).set 2 (by decide) _).set 3 (by decide) _).putM (zS 1)⟩
  · rw [if_neg hk, if_neg hk]
    have hb : (c.m.k != 0) = true := by simpa using hk
    clear hk
    go_enter Try.func33, Try.ntmps33
    go_wp2
    go_ret
    exact ⟨rfl, HH.out, Xo.refl g o w⟩
set_option maxHeartbeats 2000000 in
set_option maxRecDepth 8000 in
theorem xdue_any (h : Xb w g o (xC c l)) : Calls Try.prog 36 #[.pointer (some ⟨g, o, none⟩)] w fun e w' => e = .returned (.tuple #[.agg (smC c.due.m), .bool c.due.is]) ∧ Xb w' g o (xC c.due.c l) ∧ Xo g o w w' := by
  have hl := h.lt
  have f0 := h.f0
  have f1 := h.f1
  have f2 := h.f2
  have f3 := h.f3
  have f4 := h.f4
  have f5 := h.f5
  have f6 := h.f6
  have f7 := h.f7
  have f8 := h.f8
  have f9 := h.f9
  have f10 := h.f10
  have f11 := h.f11
  have f12 := h.f12
  have f13 := h.f13
  have f14 := h.f14
  have f15 := h.f15
  have z := h.z
  have HH := hide h
  unfold Cl.due
  clear h
  by_cases hk : c.m.k = 0
  · rw [if_pos hk]
    have hb : (c.m.k == 0) = true := by simpa using hk
    clear hk
    go_enter Try.func36, Try.ntmps36
    go_wp2
    refine bodyPost_ret (by rw [results_ct (fn := Try.f36) rfl]; go_simp; rfl) rfl ?_
    exact ⟨rfl, HH.out.alloc _, (Xo.refl g o w).alloc hl _⟩
  rw [if_neg hk]
  have hb : (c.m.k == 0) = false := by simpa using hk
  clear hk
  by_cases ht : 0 < c.ti
  · rw [if_pos ht]
    go_enter Try.func36, Try.ntmps36
    go_wp2
    refine bodyPost_ret (by rw [results_ct (fn := Try.f36) rfl]; go_simp; rfl) rfl ?_
    exact ⟨rfl, HH.out.alloc _, (Xo.refl g o w).alloc hl _⟩
  · rw [if_neg ht]
    have t0 : decide (0 < c.ti) = false := decide_eq_false ht
    go_enter Try.func36, Try.ntmps36
    go_wp2
    refine bodyPost_ret (by rw [results_ct (fn := Try.f36) rfl]; go_simp; rfl) rfl ?_
    exact ⟨rfl, (HH.out.ti _).alloc _, ((Xo.refl g o w).set 3 (by decide) _).alloc hl _⟩
end
end Go.Proofs.Ytaikogbeaohmhaa
