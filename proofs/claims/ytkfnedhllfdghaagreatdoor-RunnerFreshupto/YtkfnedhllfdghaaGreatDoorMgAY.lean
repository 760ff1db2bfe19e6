import Derived.Test.YtkfnedhllfdghaaGreatDoorRows
import Derived.WalkKit
import Derived.WalkSpells
import Derived.WalkLawsBesides
import Derived.BigQuiet
import Derived.BigRegion
import Derived.Deep.Cut
import Derived.Deep.AppendLies
import Derived.Deep.RegionLaw
import Derived.Deep.RegionHeld3
import Derived.Laws.StructEq
import Derived.Lib.SliceRun

section
namespace Go.Proofs.YtkfnedhllfdghaaGreatDoor.SE
set_option maxRecDepth 20000
open Go.RowKit

theorem hide {p : Prop} (h : p) : Hid p := h
/-- a message -/
@[ext] structure Sm where
  k : Int
  se : Int
  nu : Int
  jo : Int
  ba : Int
  ix : Int
  co : Int
  rc : Int
  rb : Nat
  tx : ByteArray
  pr : ByteArray
  deriving DecidableEq
def e0 : ByteArray := ⟨#[]⟩
def zS (k : Int) : Sm := ⟨k, 0, 0, 0, 0, 0, 0, 0, 0, e0, e0⟩
def smC (m : Sm) : Array Value := #[.int .i64 m.k, .int .i64 m.se, .int .i64 m.nu, .int .i64 m.jo, .int .i64 m.ba, .int .i64 m.ix, .int .i64 m.co, .int .i64 m.rc, .int .u64 (m.rb : Int), .string m.tx, .string m.pr]
/-- a caller, as it stands -/
structure Cl where
  rs : Int
  ti : Int
  m : Sm
  se : Int
  gr : Int
  la : Int
def clC (c : Cl) : Array Value := #[.int .i64 c.rs, .int .i64 c.ti, .int .i64 c.m.k, .int .i64 c.m.se, .int .i64 c.m.nu, .int .i64 c.m.jo, .int .i64 c.m.ba, .int .i64 c.m.ix, .int .i64 c.m.co, .int .i64 c.m.rc, .int .u64 (c.m.rb : Int), .string c.m.tx, .string c.m.pr, .int .i64 c.se, .int .i64 c.gr, .int .i64 c.la]
/-- a caller's block -/
def Cb (w : World) (b : Nat) (c : Cl) : Prop := w.heap[b]? = some (.cells (clC c) 105 (0, 0))
theorem Cb.lt {w : World} {b : Nat} {c : Cl} (h : Cb w b c) : b < w.heap.size := lt_of_block h
theorem Cb.c0 {w : World} {b : Nat} {c : Cl} (h : Cb w b c) : w.cell? ⟨b, 0, none⟩ = some (.int .i64 c.rs) := by unfold Cb at h; simp [World.cell?, h, clC]
theorem Cb.c1 {w : World} {b : Nat} {c : Cl} (h : Cb w b c) : w.cell? ⟨b, 1, none⟩ = some (.int .i64 c.ti) := by unfold Cb at h; simp [World.cell?, h, clC]
theorem Cb.c2 {w : World} {b : Nat} {c : Cl} (h : Cb w b c) : w.cell? ⟨b, 2, none⟩ = some (.int .i64 c.m.k) := by unfold Cb at h; simp [World.cell?, h, clC]
theorem Cb.c3 {w : World} {b : Nat} {c : Cl} (h : Cb w b c) : w.cell? ⟨b, 3, none⟩ = some (.int .i64 c.m.se) := by unfold Cb at h; simp [World.cell?, h, clC]
theorem Cb.c4 {w : World} {b : Nat} {c : Cl} (h : Cb w b c) : w.cell? ⟨b, 4, none⟩ = some (.int .i64 c.m.nu) := by unfold Cb at h; simp [World.cell?, h, clC]
theorem Cb.c5 {w : World} {b : Nat} {c : Cl} (h : Cb w b c) : w.cell? ⟨b, 5, none⟩ = some (.int .i64 c.m.jo) := by unfold Cb at h; simp [World.cell?, h, clC]
theorem Cb.c6 {w : World} {b : Nat} {c : Cl} (h : Cb w b c) : w.cell? ⟨b, 6, none⟩ = some (.int .i64 c.m.ba) := by unfold Cb at h; simp [World.cell?, h, clC]
theorem Cb.c7 {w : World} {b : Nat} {c : Cl} (h : Cb w b c) : w.cell? ⟨b, 7, none⟩ = some (.int .i64 c.m.ix) := by unfold Cb at h; simp [World.cell?, h, clC]
theorem Cb.c8 {w : World} {b : Nat} {c : Cl} (h : Cb w b c) : w.cell? ⟨b, 8, none⟩ = some (.int .i64 c.m.co) := by unfold Cb at h; simp [World.cell?, h, clC]
theorem Cb.c9 {w : World} {b : Nat} {c : Cl} (h : Cb w b c) : w.cell? ⟨b, 9, none⟩ = some (.int .i64 c.m.rc) := by unfold Cb at h; simp [World.cell?, h, clC]
theorem Cb.c10 {w : World} {b : Nat} {c : Cl} (h : Cb w b c) : w.cell? ⟨b, 10, none⟩ = some (.int .u64 (c.m.rb : Int)) := by unfold Cb at h; simp [World.cell?, h, clC]
theorem Cb.c11 {w : World} {b : Nat} {c : Cl} (h : Cb w b c) : w.cell? ⟨b, 11, none⟩ = some (.string c.m.tx) := by unfold Cb at h; simp [World.cell?, h, clC]
theorem Cb.c12 {w : World} {b : Nat} {c : Cl} (h : Cb w b c) : w.cell? ⟨b, 12, none⟩ = some (.string c.m.pr) := by unfold Cb at h; simp [World.cell?, h, clC]
theorem Cb.c13 {w : World} {b : Nat} {c : Cl} (h : Cb w b c) : w.cell? ⟨b, 13, none⟩ = some (.int .i64 c.se) := by unfold Cb at h; simp [World.cell?, h, clC]
theorem Cb.c14 {w : World} {b : Nat} {c : Cl} (h : Cb w b c) : w.cell? ⟨b, 14, none⟩ = some (.int .i64 c.gr) := by unfold Cb at h; simp [World.cell?, h, clC]
theorem Cb.c15 {w : World} {b : Nat} {c : Cl} (h : Cb w b c) : w.cell? ⟨b, 15, none⟩ = some (.int .i64 c.la) := by unfold Cb at h; simp [World.cell?, h, clC]
theorem Cb.z {w : World} {b : Nat} {c : Cl} (h : Cb w b c) (k : Nat) : w.frozen? ⟨b, k, none⟩ = false := by unfold Cb at h; simp [World.frozen?, h]
theorem heap_set_self (w : World) (g o : Nat) (v : Value) (cur : Array Value) (t : TypeId) (fr : Nat × Nat) (h : w.heap[g]? = some (.cells cur t fr)) : (w.setCell ⟨g, o, none⟩ v).heap[g]? = some (.cells (cur.setIfInBounds o v) t fr) := by
  have hlt := lt_of_block h
  have h' : w.heap[g] = .cells cur t fr := by simpa [Array.getElem?_eq_getElem hlt] using h
  show (w.heap.modify g _)[g]? = _
  rw [Array.getElem?_eq_getElem (by simpa using hlt), Array.getElem_modify_self, h']
  rfl
theorem setCell_size (w : World) (a : Addr) (v : Value) : (w.setCell a v).heap.size = w.heap.size := by simp [World.setCell]
/-- only block b is turned -/
structure On (b : Nat) (w w' : World) : Prop where
  os : w'.os = w.os
  tape : w'.tape = w.tape
  output : w'.output = w.output
  size : w.heap.size ≤ w'.heap.size
  block : ∀ k, k < w.heap.size → k ≠ b → w'.heap[k]? = w.heap[k]?
theorem On.refl (b : Nat) (w : World) : On b w w := ⟨rfl, rfl, rfl, Nat.le_refl _, fun _ _ _ => rfl⟩
theorem On.set {b : Nat} {w w' : World} (h : On b w w') (o : Nat) (v : Value) : On b w (w'.setCell ⟨b, o, none⟩ v) :=
  ⟨h.os, h.tape, h.output, by rw [setCell_size]; exact h.size, fun k hk hn => (Below.heap_setCell _ _ _ k hn).trans (h.block k hk hn)⟩
theorem On.drewN {b : Nat} {w w' : World} (h : On b w w') (n : Nat) : On b w (w'.drewN n) := ⟨h.os, h.tape, h.output, h.size, h.block⟩
theorem On.drew {b : Nat} {w w' : World} (h : On b w w') : On b w w'.drew := ⟨h.os, h.tape, h.output, h.size, h.block⟩
theorem On.below {b : Nat} {w w' : World} (h : On b w w') {B : Nat} (h1 : B ≤ b) (h2 : B ≤ w.heap.size) : Below B w w' := ⟨h.os, h.tape, h.output, h.size, fun k hk => h.block k (by omega) (by omega)⟩
theorem On.of_below {b : Nat} {w w' : World} (h : Below w.heap.size w w') : On b w w' := ⟨h.os, h.tape, h.output, h.size, fun k hk _ => h.block k hk⟩
theorem On.trans {b : Nat} {u v w : World} (h : On b u v) (k : On b v w) : On b u w :=
  ⟨k.os.trans h.os, k.tape.trans h.tape, k.output.trans h.output, Nat.le_trans h.size k.size, fun i hi hn => (k.block i (Nat.lt_of_lt_of_le hi h.size) hn).trans (h.block i hi hn)⟩
theorem On.alloc {b : Nat} {w w' : World} (h : On b w w') (o : Obj) : On b w (w'.alloc o) := h.trans (On.of_below ((Below.refl _ w').alloc (Nat.le_refl _) o))
theorem Cb.on {b k : Nat} {w w' : World} {c : Cl} (h : Cb w k c) (ho : On b w w') (hn : k ≠ b) : Cb w' k c := (ho.block k h.lt hn).trans h
theorem Cb.below {k : Nat} {w w' : World} {c : Cl} (h : Cb w k c) (ho : Below w.heap.size w w') : Cb w' k c := (ho.block k h.lt).trans h
theorem Cb.alloc {k : Nat} {w : World} {c : Cl} (h : Cb w k c) (o : Obj) : Cb (w.alloc o) k c := h.below ((Below.refl _ w).alloc (Nat.le_refl _) o)
theorem Cb.drewN {k : Nat} {w : World} {c : Cl} (h : Cb w k c) (n : Nat) : Cb (w.drewN n) k c := h
theorem below_drewN {B : Nat} {w w' : World} (h : Below B w w') (n : Nat) : Below B w (w'.drewN n) := ⟨h.os, h.tape, h.output, h.size, h.block⟩
theorem below_alloc (w : World) (o : Obj) : Below w.heap.size w (w.alloc o) := (Below.refl _ w).alloc (Nat.le_refl _) o
/-- a message laid into a block -/
def putM (w : World) (b o : Nat) (m : Sm) : World :=
  ((((((((((w.setCell ⟨b, o, none⟩ (.int .i64 m.k)).setCell ⟨b, o + 1, none⟩ (.int .i64 m.se)).setCell ⟨b, o + 2, none⟩ (.int .i64 m.nu)).setCell ⟨b, o + 3, none⟩ (.int .i64 m.jo)).setCell ⟨b, o + 4, none⟩ (.int .i64 m.ba)).setCell ⟨b, o + 5, none⟩ (.int .i64 m.ix)).setCell ⟨b, o + 6, none⟩ (.int .i64 m.co)).setCell ⟨b, o + 7, none⟩ (.int .i64 m.rc)).setCell ⟨b, o + 8, none⟩ (.int .u64 (m.rb : Int))).setCell ⟨b, o + 9, none⟩ (.string m.tx)).setCell ⟨b, o + 10, none⟩ (.string m.pr)
theorem On.putM {b : Nat} {w w' : World} (h : On b w w') (o : Nat) (m : Sm) : On b w (putM w' b o m) := ((((((((((h.set _ _).set _ _).set _ _).set _ _).set _ _).set _ _).set _ _).set _ _).set _ _).set _ _).set _ _
theorem Cb.putM {b : Nat} {w : World} {c : Cl} (h : Cb w b c) (m : Sm) : Cb (putM w b 2 m) b { c with m := m } := by
  unfold Cb clC at h ⊢
  have h1 := heap_set_self _ b 2 (.int .i64 m.k) _ _ _ h
  simp only [List.setIfInBounds_toArray, List.set_cons_succ, List.set_cons_zero] at h1
  have h2 := heap_set_self _ b 3 (.int .i64 m.se) _ _ _ h1
  simp only [List.setIfInBounds_toArray, List.set_cons_succ, List.set_cons_zero] at h2
  have h3 := heap_set_self _ b 4 (.int .i64 m.nu) _ _ _ h2
  simp only [List.setIfInBounds_toArray, List.set_cons_succ, List.set_cons_zero] at h3
  have h4 := heap_set_self _ b 5 (.int .i64 m.jo) _ _ _ h3
  simp only [List.setIfInBounds_toArray, List.set_cons_succ, List.set_cons_zero] at h4
  have h5 := heap_set_self _ b 6 (.int .i64 m.ba) _ _ _ h4
  simp only [List.setIfInBounds_toArray, List.set_cons_succ, List.set_cons_zero] at h5
  have h6 := heap_set_self _ b 7 (.int .i64 m.ix) _ _ _ h5
  simp only [List.setIfInBounds_toArray, List.set_cons_succ, List.set_cons_zero] at h6
  have h7 := heap_set_self _ b 8 (.int .i64 m.co) _ _ _ h6
  simp only [List.setIfInBounds_toArray, List.set_cons_succ, List.set_cons_zero] at h7
  have h8 := heap_set_self _ b 9 (.int .i64 m.rc) _ _ _ h7
  simp only [List.setIfInBounds_toArray, List.set_cons_succ, List.set_cons_zero] at h8
  have h9 := heap_set_self _ b 10 (.int .u64 (m.rb : Int)) _ _ _ h8
  simp only [List.setIfInBounds_toArray, List.set_cons_succ, List.set_cons_zero] at h9
  have h10 := heap_set_self _ b 11 (.string m.tx) _ _ _ h9
  simp only [List.setIfInBounds_toArray, List.set_cons_succ, List.set_cons_zero] at h10
  have h11 := heap_set_self _ b 12 (.string m.pr) _ _ _ h10
  simp only [List.setIfInBounds_toArray, List.set_cons_succ, List.set_cons_zero] at h11
  exact h11
theorem Cb.ti {b : Nat} {w : World} {c : Cl} (h : Cb w b c) (v : Int) : Cb (w.setCell ⟨b, 1, none⟩ (.int .i64 v)) b { c with ti := v } := heap_set_self w b 1 _ _ _ _ h
theorem Cb.se {b : Nat} {w : World} {c : Cl} (h : Cb w b c) (v : Int) : Cb (w.setCell ⟨b, 13, none⟩ (.int .i64 v)) b { c with se := v } := heap_set_self w b 13 _ _ _ _ h
theorem Cb.gr {b : Nat} {w : World} {c : Cl} (h : Cb w b c) (v : Int) : Cb (w.setCell ⟨b, 14, none⟩ (.int .i64 v)) b { c with gr := v } := heap_set_self w b 14 _ _ _ _ h
theorem Cb.la {b : Nat} {w : World} {c : Cl} (h : Cb w b c) (v : Int) : Cb (w.setCell ⟨b, 15, none⟩ (.int .i64 v)) b { c with la := v } := heap_set_self w b 15 _ _ _ _ h
/-- what may be -/
structure Cl.ok (c : Cl) : Prop where
  r1 : 1 ≤ c.rs
  r2 : c.rs ≤ 16
  t0 : 0 ≤ c.ti
  t1 : c.ti ≤ c.rs
  s0 : 0 ≤ c.se
  s1 : c.se ≤ 9223372036854775807
  g0 : 0 ≤ c.gr
  g1 : c.gr ≤ 9223372036854775807
  l0 : 0 ≤ c.la
  l1 : c.la ≤ 1099511627776
  k : (c.m.k = 0 ∨ c.m.k = 1) ∧ c.m.nu = 0 ∨ (c.m.k = 2 ∨ c.m.k = 3 ∨ c.m.k = 4) ∧ 1 ≤ c.m.nu
def newC (x : Int) : Cl := ⟨x, 0, zS 0, 0, 0, 0⟩
theorem newC_ok {x : Int} (h1 : 1 ≤ x) (h2 : x ≤ 16) : (newC x).ok := ⟨h1, h2, Int.le_refl _, by show (0 : Int) ≤ x; omega, Int.le_refl _, by show (0 : Int) ≤ _; decide, Int.le_refl _, by show (0 : Int) ≤ _; decide, Int.le_refl _, by show (0 : Int) ≤ _; decide, .inl ⟨.inl rfl, rfl⟩⟩
/-- what a call of NewCaller leaves -/
def NPost (x : Int) (w : World) (e : Ending) (w' : World) : Prop :=
  (¬ (1 ≤ x ∧ x ≤ 16) ∧ e = .returned (.tuple #[.pointer none, .int .i64 133]) ∧ w' = w) ∨ ((1 ≤ x ∧ x ≤ 16) ∧ e = .returned (.tuple #[.pointer (some ⟨w.heap.size, 0, none⟩), .int .i64 0]) ∧ Cb w' w.heap.size (newC x) ∧ Below w.heap.size w w')
set_option maxHeartbeats 1000000 in
theorem cnew_any (w : World) {x : Int} (hx : -9223372036854775808 ≤ x ∧ x ≤ 9223372036854775807) :
    Calls Tryz.prog 27 #[.int .i64 x] w (NPost x w) := by
  by_cases h1 : x < 1
  · go_enter Tryz.func27, Tryz.ntmps27
    go_wp2
    go_ret2
    exact .inl ⟨by omega, rfl, rfl⟩
  by_cases h2 : 16 < x
  · go_enter Tryz.func27, Tryz.ntmps27
    go_wp2
    go_ret2
    exact .inl ⟨by omega, rfl, rfl⟩
  go_enter Tryz.func27, Tryz.ntmps27
  go_wp2
  go_ret2
  exact .inr ⟨by omega, rfl, heap_alloc_new w _, below_alloc w _⟩
set_option maxHeartbeats 1000000 in
theorem busy_any {w : World} {b : Nat} {c : Cl} (h : Cb w b c) :
    Calls Tryz.prog 37 #[.pointer (some ⟨b, 0, none⟩)] w fun e w' => e = .returned (.bool (c.m.k != 0)) ∧ w' = w := by
  have c1 := h.c2
  go_enter Tryz.func37, Tryz.ntmps37
  go_wp2
  go_ret
  exact ⟨rfl, rfl⟩
set_option maxHeartbeats 1000000 in
theorem timer_any {w : World} {b : Nat} {c : Cl} (h : Cb w b c) :
    Calls Tryz.prog 38 #[.pointer (some ⟨b, 0, none⟩)] w fun e w' => e = .returned (.int .i64 c.ti) ∧ w' = w := by
  have c1 := h.c1
  go_enter Tryz.func38, Tryz.ntmps38
  go_wp2
  go_ret
  exact ⟨rfl, rfl⟩
set_option maxHeartbeats 1000000 in
theorem waits_any {w : World} {b : Nat} {c : Cl} (h : Cb w b c) :
    Calls Tryz.prog 36 #[.pointer (some ⟨b, 0, none⟩)] w fun e w' => e = .returned (.int .i64 c.m.nu) ∧ w' = w := by
  have c1 := h.c4
  go_enter Tryz.func36, Tryz.ntmps36
  go_wp2
  go_ret
  exact ⟨rfl, rfl⟩
set_option maxHeartbeats 1000000 in
theorem sess_any {w : World} {b : Nat} {c : Cl} (h : Cb w b c) :
    Calls Tryz.prog 35 #[.pointer (some ⟨b, 0, none⟩)] w fun e w' => e = .returned (.int .i64 c.se) ∧ w' = w := by
  have c1 := h.c13
  go_enter Tryz.func35, Tryz.ntmps35
  go_wp2
  go_ret
  exact ⟨rfl, rfl⟩
set_option maxHeartbeats 1000000 in
theorem hails_any {w : World} {b : Nat} {c : Cl} (h : Cb w b c) :
    Calls Tryz.prog 216 #[.pointer (some ⟨b, 0, none⟩)] w fun e w' => e = .returned (.bool (c.m.k == 1)) ∧ w' = w := by
  have c1 := h.c2
  go_enter Tryz.func216, Tryz.ntmps216
  go_wp2
  go_ret
  exact ⟨rfl, rfl⟩
def Cl.tick (c : Cl) : Cl := if 0 < c.ti then { c with ti := c.ti - 1 } else c
theorem Cl.tick_ok {c : Cl} (h : c.ok) : c.tick.ok := by
  unfold Cl.tick; split
  · exact ⟨h.r1, h.r2, by show 0 ≤ c.ti - 1; omega, by have := h.t1; show c.ti - 1 ≤ c.rs; omega, h.s0, h.s1, h.g0, h.g1, h.l0, h.l1, h.k⟩
  · exact h
set_option maxHeartbeats 1000000 in
theorem tick_any {w : World} {b : Nat} {c : Cl} (hk : c.ok) (h : Cb w b c) :
    Calls Tryz.prog 55 #[.pointer (some ⟨b, 0, none⟩)] w fun e w' => e = .returned (.tuple #[]) ∧ Cb w' b c.tick ∧ On b w w' := by
  have c1 := h.c1
  have z1 := h.z 1
  have h0 := hk.t0
  have h16 : c.ti ≤ 16 := Int.le_trans hk.t1 hk.r2
  unfold Cl.tick
  clear hk
  by_cases ht : 0 < c.ti
  · rw [if_pos ht]
    have HH := hide h
    clear h
    go_enter Tryz.func55, Tryz.ntmps55
    go_wp2
    go_end0
    exact ⟨rfl, HH.out.ti _, (On.refl b w).set _ _⟩
  · rw [if_neg ht]
    have HH := hide h
    clear h
    go_enter Tryz.func55, Tryz.ntmps55
    go_wp2
    go_end0
    exact ⟨rfl, HH.out, On.refl b w⟩
end Go.Proofs.YtkfnedhllfdghaaGreatDoor.SE
end

section
namespace Go.Proofs.YtkfnedhllfdghaaGreatDoor.SE
set_option maxRecDepth 20000
open Go.RowKit

set_option maxHeartbeats 1000000 in
theorem begin_any {w : World} {b : Nat} {c : Cl} (h : Cb w b c) (m : Sm) :
    Calls Tryz.prog 132 #[.pointer (some ⟨b, 0, none⟩), .agg (smC m)] w fun e w' => e = .returned (.tuple #[]) ∧ Cb w' b { c with m := m, ti := 0 } ∧ On b w w' := by
  unfold smC
  have c1 := h.c1
  have c2 := h.c2
  have c3 := h.c3
  have c4 := h.c4
  have c5 := h.c5
  have c6 := h.c6
  have c7 := h.c7
  have c8 := h.c8
  have c9 := h.c9
  have c10 := h.c10
  have c11 := h.c11
  have c12 := h.c12
  have z := h.z
  have hl := h.lt
  have HH := hide h
  clear h
  go_enter Tryz.func132, Tryz.ntmps132
  go_wp2
  go_end0
  exact ⟨rfl, ((HH.out.putM m).ti 0).alloc _, (((On.refl b w).putM 2 m).set 1 _).alloc _⟩
set_option maxHeartbeats 1000000 in
theorem end_any {w : World} {b : Nat} {c : Cl} (h : Cb w b c) :
    Calls Tryz.prog 183 #[.pointer (some ⟨b, 0, none⟩)] w fun e w' => e = .returned (.tuple #[]) ∧ Cb w' b { c with m := zS 0, ti := 0 } ∧ On b w w' := by
  have HX := hide (begin_any h (zS 0))
  clear h
  go_enter Tryz.func183, Tryz.ntmps183
  go_wp2_with fail
  refine HX.out.mono ?_
  rintro e w1 ⟨rfl, h1, h2⟩
  have H1 := hide h1
  have H2 := hide h2
  clear h1 h2 HX
  go_wp2_with fail
  go_end0
  exact ⟨rfl, H1.out, H2.out⟩
structure CR where
  e : Int
  c : Cl
def Cl.hello (c : Cl) : CR := if c.m.k = 0 then ⟨0, { c with se := 0, m := zS 1, ti := 0 }⟩ else ⟨131, c⟩
theorem Cl.hello_ok {c : Cl} (h : c.ok) : c.hello.c.ok := by
  unfold Cl.hello; split
  · exact ⟨h.r1, h.r2, Int.le_refl _, by have := h.r1; show (0 : Int) ≤ c.rs; omega, Int.le_refl _, by show (0 : Int) ≤ _; decide, h.g0, h.g1, h.l0, h.l1, .inl ⟨.inr rfl, rfl⟩⟩
  · exact h
set_option maxHeartbeats 1000000 in
theorem hello_any {w : World} {b : Nat} {c : Cl} (h : Cb w b c) :
    Calls Tryz.prog 91 #[.pointer (some ⟨b, 0, none⟩)] w fun e w' => e = .returned (.int .i64 c.hello.e) ∧ Cb w' b c.hello.c ∧ On b w w' := by
  have HB := hide (busy_any h)
  have HH := hide h
  have c13 := h.c13
  have z13 := h.z 13
  unfold Cl.hello
  clear h
  by_cases hk : c.m.k = 0
  · rw [if_pos hk]
    have hb : (c.m.k != 0) = false := by rw [hk]; rfl
    rw [hb] at HB
    have HK := hide hk
    have HX := hide (begin_any (HH.out.se 0) (zS 1))
    have HO := hide ((On.refl b w).set 13 (.int .i64 0))
    clear hk hb
    go_enter Tryz.func91, Tryz.ntmps91
    go_wp2_with fail
    refine HB.out.mono ?_
    rintro e w1 ⟨rfl, rfl⟩
    go_wp2_with fail
    refine HX.out.mono ?_
    rintro e w2 ⟨rfl, h1, h2⟩
    have H1 := hide h1
    have H2 := hide (HO.out.trans h2)
    clear h1 h2 HX HO
    go_wp2_with fail
    go_ret
    exact ⟨rfl, H1.out, H2.out⟩
  · rw [if_neg hk]
    have hb : (c.m.k != 0) = true := by simpa using hk
    rw [hb] at HB
    clear hk hb
    go_enter Tryz.func91, Tryz.ntmps91
    go_wp2_with fail
    refine HB.out.mono ?_
    rintro e w1 ⟨rfl, rfl⟩
    go_wp2_with fail
    go_ret
    exact ⟨rfl, HH.out, On.refl _ _⟩
set_option maxHeartbeats 1000000 in
theorem cclone_any {w : World} {b : Nat} {c : Cl} (h : Cb w b c) :
    Calls Tryz.prog 29 #[.pointer (some ⟨b, 0, none⟩)] w fun e w' => e = .returned (.pointer (some ⟨w.heap.size, 0, none⟩)) ∧ Cb w' w.heap.size c ∧ Below w.heap.size w w' := by
  have c0 := h.c0
  have c1 := h.c1
  have c2 := h.c2
  have c3 := h.c3
  have c4 := h.c4
  have c5 := h.c5
  have c6 := h.c6
  have c7 := h.c7
  have c8 := h.c8
  have c9 := h.c9
  have c10 := h.c10
  have c11 := h.c11
  have c12 := h.c12
  have c13 := h.c13
  have c14 := h.c14
  have c15 := h.c15
  clear h
  go_enter Tryz.func29, Tryz.ntmps29
  go_wp2
  go_ret
  exact ⟨rfl, heap_alloc_new w _, below_alloc w _⟩
structure DR where
  m : Sm
  is : Bool
  c : Cl
def Cl.due (c : Cl) : DR := if c.m.k = 0 then ⟨zS 0, false, c⟩ else if 0 < c.ti then ⟨zS 0, false, c⟩ else ⟨c.m, true, { c with ti := c.rs }⟩
theorem Cl.due_ok {c : Cl} (h : c.ok) : c.due.c.ok := by
  unfold Cl.due; split
  · exact h
  · split
    · exact h
    · exact ⟨h.r1, h.r2, by have := h.r1; show 0 ≤ c.rs; omega, Int.le_refl _, h.s0, h.s1, h.g0, h.g1, h.l0, h.l1, h.k⟩
theorem results_ct {fn : Func} {p t : Tmp} {ty : TypeId} (h : fn.results = #[.cell p ty, .tmp t]) (tmps : Array Value) (P : Program) (w : World) :
    (results fn tmps).run P w = ((asAddr (tmps.getD p undef)).run P w).andThen fun a w₁ => ((loadVar ty a).run P w₁).andThen fun v w₂ => .ok (.tuple #[v, tmps.getD t undef]) w₂ := by
  simp only [results, h]
  simp [Sem.run_bind, Result.andThen]
set_option maxHeartbeats 1000000 in
set_option maxRecDepth 8000 in
theorem due_any {w : World} {b : Nat} {c : Cl} (h : Cb w b c) :
    Calls Tryz.prog 47 #[.pointer (some ⟨b, 0, none⟩)] w fun e w' => e = .returned (.tuple #[.agg (smC c.due.m), .bool c.due.is]) ∧ Cb w' b c.due.c ∧ On b w w' := by
  have hl := h.lt
  have HB := hide (busy_any (h.alloc (.cells #[.int .i64 0, .int .i64 0, .int .i64 0, .int .i64 0, .int .i64 0, .int .i64 0, .int .i64 0, .int .i64 0, .int .u64 0, .string ⟨#[]⟩, .string ⟨#[]⟩] 67)))
  have HH := hide h
  unfold Cl.due
  by_cases hk : c.m.k = 0
  · rw [if_pos hk]
    have hb : (c.m.k != 0) = false := by rw [hk]; rfl
    rw [hb] at HB
    clear hk hb h
    go_enter Tryz.func47, Tryz.ntmps47
    go_wp2_with fail
    refine HB.out.mono ?_
    rintro e w1 ⟨rfl, rfl⟩
    go_wp2_with fail
    refine bodyPost_ret (by rw [results_ct (fn := Tryz.f47) rfl]; go_simp; rfl) rfl ?_
    exact ⟨rfl, HH.out.alloc _, (On.refl _ _).alloc _⟩
  rw [if_neg hk]
  have hb : (c.m.k != 0) = true := by simpa using hk
  rw [hb] at HB
  have c0 := h.c0
  have c1 := h.c1
  have z1 := h.z 1
  have h1 := h.ti c.rs
  have d2 := h1.c2
  have d3 := h1.c3
  have d4 := h1.c4
  have d5 := h1.c5
  have d6 := h1.c6
  have d7 := h1.c7
  have d8 := h1.c8
  have d9 := h1.c9
  have d10 := h1.c10
  have d11 := h1.c11
  have d12 := h1.c12
  clear hk hb h h1
  by_cases ht : 0 < c.ti
  · rw [if_pos ht]
    go_enter Tryz.func47, Tryz.ntmps47
    go_wp2_with fail
    refine HB.out.mono ?_
    rintro e w1 ⟨rfl, rfl⟩
    go_wp2_with fail
    refine bodyPost_ret (by rw [results_ct (fn := Tryz.f47) rfl]; go_simp; rfl) rfl ?_
    exact ⟨rfl, HH.out.alloc _, (On.refl _ _).alloc _⟩
  · rw [if_neg ht]
    go_enter Tryz.func47, Tryz.ntmps47
    go_wp2_with fail
    refine HB.out.mono ?_
    rintro e w1 ⟨rfl, rfl⟩
    go_wp2_with fail
    refine bodyPost_ret (by rw [results_ct (fn := Tryz.f47) rfl]; go_simp; rfl) rfl ?_
    exact ⟨rfl, (HH.out.ti _).alloc _, ((On.refl _ _).set 1 _).alloc _⟩
end Go.Proofs.YtkfnedhllfdghaaGreatDoor.SE
end

section
namespace Go.Proofs.YtkfnedhllfdghaaGreatDoor.SE
set_option maxRecDepth 20000
open Go.RowKit

/-- may a reply be one to a request? -/
def fitB (rq rp : Int) : Bool := if rp = 10 ∨ rp = 9 then rq == 2 else if rp = 13 then rq == 4 else if rp = 12 then rq == 4 || rq == 3 else if rp = 11 then rq == 3 else false

set_option maxHeartbeats 1000000 in
theorem fits_any (w : World) (rq rp : Int) :
    Calls Tryz.prog 218 #[.int .i64 rq, .int .i64 rp] w fun e w' => e = .returned (.bool (fitB rq rp)) ∧ w' = w := by
  by_cases h1 : rp = 10
  · have hr : fitB rq rp = (rq == 2) := if_pos (.inl h1)
    rw [hr]; clear hr; subst h1
    go_enter Tryz.func218, Tryz.ntmps218
    go_wp2
    go_ret
    exact ⟨rfl, rfl⟩
  by_cases h2 : rp = 9
  · have hr : fitB rq rp = (rq == 2) := if_pos (.inr h2)
    rw [hr]; clear hr h1; subst h2
    go_enter Tryz.func218, Tryz.ntmps218
    go_wp2
    go_ret
    exact ⟨rfl, rfl⟩
  by_cases h3 : rp = 13
  · have hr : fitB rq rp = (rq == 4) := by unfold fitB; rw [if_neg (by omega), if_pos h3]
    rw [hr]; clear hr h1 h2; subst h3
    go_enter Tryz.func218, Tryz.ntmps218
    go_wp2
    go_ret
    exact ⟨rfl, rfl⟩
  by_cases h4 : rp = 12
  · have hr : fitB rq rp = (rq == 4 || rq == 3) := by unfold fitB; rw [if_neg (by omega), if_neg h3, if_pos h4]
    rw [hr]; clear hr h1 h2 h3; subst h4
    cases q4 : rq == 4 with
    | true =>
      go_enter Tryz.func218, Tryz.ntmps218
      go_wp2
      go_ret
      exact ⟨rfl, rfl⟩
    | false =>
      go_enter Tryz.func218, Tryz.ntmps218
      go_wp2
      go_ret
      exact ⟨rfl, rfl⟩
  by_cases h5 : rp = 11
  · have hr : fitB rq rp = (rq == 3) := by unfold fitB; rw [if_neg (by omega), if_neg h3, if_neg h4, if_pos h5]
    rw [hr]; clear hr h1 h2 h3 h4; subst h5
    go_enter Tryz.func218, Tryz.ntmps218
    go_wp2
    go_ret
    exact ⟨rfl, rfl⟩
  have hr : fitB rq rp = false := by unfold fitB; rw [if_neg (by omega), if_neg h3, if_neg h4, if_neg h5]
  rw [hr]; clear hr
  have b1 : (rp == 10) = false := by simpa using h1
  have b2 : (rp == 9) = false := by simpa using h2
  have b3 : (rp == 13) = false := by simpa using h3
  have b4 : (rp == 12) = false := by simpa using h4
  have b5 : (rp == 11) = false := by simpa using h5
  clear h1 h2 h3 h4 h5
  go_enter Tryz.func218, Tryz.ntmps218
  go_wp2
  go_ret
  exact ⟨rfl, rfl⟩
/-- does a message bear the session and the number of what is under way? -/
def Cl.awt (c : Cl) (m : Sm) : Bool := (c.m.nu != 0) && (m.se == c.m.se) && (m.nu == c.m.nu)

set_option maxHeartbeats 1000000 in
set_option maxRecDepth 8000 in
theorem awaits_A {w : World} {b : Nat} {c : Cl} (h : Cb w b c) (m : Sm) (t0 : (c.m.nu != 0) = false) :
    Calls Tryz.prog 217 #[.pointer (some ⟨b, 0, none⟩), .agg (smC m)] w fun e w' => e = .returned (.bool false) ∧ Below w.heap.size w w' := by
  unfold smC
  have hl := h.lt
  have HW : Hid (∀ n, Calls Tryz.prog 36 #[.pointer (some ⟨b, 0, none⟩)] ((w.alloc (.cells #[.int .i64 m.k, .int .i64 m.se, .int .i64 m.nu, .int .i64 m.jo, .int .i64 m.ba, .int .i64 m.ix, .int .i64 m.co, .int .i64 m.rc, .int .u64 (m.rb : Int), .string m.tx, .string m.pr] 67)).drewN n) fun e w' => e = .returned (.int .i64 c.m.nu) ∧ w' = ((w.alloc (.cells #[.int .i64 m.k, .int .i64 m.se, .int .i64 m.nu, .int .i64 m.jo, .int .i64 m.ba, .int .i64 m.ix, .int .i64 m.co, .int .i64 m.rc, .int .u64 (m.rb : Int), .string m.tx, .string m.pr] 67)).drewN n)) := hide fun n => waits_any ((h.alloc _).drewN n)
  have c3 := h.c3
  have c4 := h.c4
  clear h
  go_enter Tryz.func217, Tryz.ntmps217
  go_wp2_with fail
  go_quiet (first
    | (go_at_call 36; exact Calls.quiet_of_same (HW.out _)))
  go_wp2_with fail
  go_ret
  exact ⟨rfl, below_drewN (below_alloc w _) _⟩

set_option maxHeartbeats 1000000 in
set_option maxRecDepth 8000 in
theorem awaits_B {w : World} {b : Nat} {c : Cl} (h : Cb w b c) (m : Sm) (t0 : (c.m.nu != 0) = true) (t1 : (m.se == c.m.se) = false) :
    Calls Tryz.prog 217 #[.pointer (some ⟨b, 0, none⟩), .agg (smC m)] w fun e w' => e = .returned (.bool false) ∧ Below w.heap.size w w' := by
  unfold smC
  have hl := h.lt
  have HW : Hid (∀ n, Calls Tryz.prog 36 #[.pointer (some ⟨b, 0, none⟩)] ((w.alloc (.cells #[.int .i64 m.k, .int .i64 m.se, .int .i64 m.nu, .int .i64 m.jo, .int .i64 m.ba, .int .i64 m.ix, .int .i64 m.co, .int .i64 m.rc, .int .u64 (m.rb : Int), .string m.tx, .string m.pr] 67)).drewN n) fun e w' => e = .returned (.int .i64 c.m.nu) ∧ w' = ((w.alloc (.cells #[.int .i64 m.k, .int .i64 m.se, .int .i64 m.nu, .int .i64 m.jo, .int .i64 m.ba, .int .i64 m.ix, .int .i64 m.co, .int .i64 m.rc, .int .u64 (m.rb : Int), .string m.tx, .string m.pr] 67)).drewN n)) := hide fun n => waits_any ((h.alloc _).drewN n)
  have c3 := h.c3
  have c4 := h.c4
  clear h
  go_enter Tryz.func217, Tryz.ntmps217
  go_wp2_with fail
  go_quiet (first
    | (go_at_call 36; exact Calls.quiet_of_same (HW.out _)))
  go_wp2_with fail
  go_ret
  exact ⟨rfl, below_drewN (below_alloc w _) _⟩

set_option maxHeartbeats 1000000 in
set_option maxRecDepth 8000 in
theorem awaits_C {w : World} {b : Nat} {c : Cl} (h : Cb w b c) (m : Sm) (t0 : (c.m.nu != 0) = true) (t1 : (m.se == c.m.se) = true) (t2 : (m.nu == c.m.nu) = false) :
    Calls Tryz.prog 217 #[.pointer (some ⟨b, 0, none⟩), .agg (smC m)] w fun e w' => e = .returned (.bool false) ∧ Below w.heap.size w w' := by
  unfold smC
  have hl := h.lt
  have HW : Hid (∀ n, Calls Tryz.prog 36 #[.pointer (some ⟨b, 0, none⟩)] ((w.alloc (.cells #[.int .i64 m.k, .int .i64 m.se, .int .i64 m.nu, .int .i64 m.jo, .int .i64 m.ba, .int .i64 m.ix, .int .i64 m.co, .int .i64 m.rc, .int .u64 (m.rb : Int), .string m.tx, .string m.pr] 67)).drewN n) fun e w' => e = .returned (.int .i64 c.m.nu) ∧ w' = ((w.alloc (.cells #[.int .i64 m.k, .int .i64 m.se, .int .i64 m.nu, .int .i64 m.jo, .int .i64 m.ba, .int .i64 m.ix, .int .i64 m.co, .int .i64 m.rc, .int .u64 (m.rb : Int), .string m.tx, .string m.pr] 67)).drewN n)) := hide fun n => waits_any ((h.alloc _).drewN n)
  have c3 := h.c3
  have c4 := h.c4
  clear h
  go_enter Tryz.func217, Tryz.ntmps217
  go_wp2_with fail
  go_quiet (first
    | (go_at_call 36; exact Calls.quiet_of_same (HW.out _)))
  go_wp2_with fail
  go_ret
  exact ⟨rfl, below_drewN (below_alloc w _) _⟩

set_option maxHeartbeats 1000000 in
set_option maxRecDepth 8000 in
theorem awaits_T {w : World} {b : Nat} {c : Cl} (h : Cb w b c) (m : Sm) (t0 : (c.m.nu != 0) = true) (t1 : (m.se == c.m.se) = true) (t2 : (m.nu == c.m.nu) = true) :
    Calls Tryz.prog 217 #[.pointer (some ⟨b, 0, none⟩), .agg (smC m)] w fun e w' => e = .returned (.bool true) ∧ Below w.heap.size w w' := by
  unfold smC
  have hl := h.lt
  have HW : Hid (∀ n, Calls Tryz.prog 36 #[.pointer (some ⟨b, 0, none⟩)] ((w.alloc (.cells #[.int .i64 m.k, .int .i64 m.se, .int .i64 m.nu, .int .i64 m.jo, .int .i64 m.ba, .int .i64 m.ix, .int .i64 m.co, .int .i64 m.rc, .int .u64 (m.rb : Int), .string m.tx, .string m.pr] 67)).drewN n) fun e w' => e = .returned (.int .i64 c.m.nu) ∧ w' = ((w.alloc (.cells #[.int .i64 m.k, .int .i64 m.se, .int .i64 m.nu, .int .i64 m.jo, .int .i64 m.ba, .int .i64 m.ix, .int .i64 m.co, .int .i64 m.rc, .int .u64 (m.rb : Int), .string m.tx, .string m.pr] 67)).drewN n)) := hide fun n => waits_any ((h.alloc _).drewN n)
  have c3 := h.c3
  have c4 := h.c4
  clear h
  go_enter Tryz.func217, Tryz.ntmps217
  go_wp2_with fail
  go_quiet (first
    | (go_at_call 36; exact Calls.quiet_of_same (HW.out _)))
  go_wp2_with fail
  go_ret
  exact ⟨rfl, below_drewN (below_alloc w _) _⟩

theorem awaits_any {w : World} {b : Nat} {c : Cl} (h : Cb w b c) (m : Sm) :
    Calls Tryz.prog 217 #[.pointer (some ⟨b, 0, none⟩), .agg (smC m)] w fun e w' => e = .returned (.bool (c.awt m)) ∧ Below w.heap.size w w' := by
  unfold Cl.awt
  cases t0 : c.m.nu != 0 with
  | false => exact awaits_A h m t0
  | true => cases t1 : m.se == c.m.se with
    | false => exact awaits_B h m t0 t1
    | true => cases t2 : m.nu == c.m.nu with
      | false => exact awaits_C h m t0 t1 t2
      | true => exact awaits_T h m t0 t1 t2
end Go.Proofs.YtkfnedhllfdghaaGreatDoor.SE
end
