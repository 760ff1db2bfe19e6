import Derived.Test.YtpmjhndkcdfpfaaRows
import Derived.WalkKit
import Derived.WalkSpells
import Derived.WalkLawsBesides
import Derived.BigQuiet
import Derived.BigRegion
import Derived.Deep.Cut
import Derived.Deep.AppendLies
import Derived.Deep.RegionLaw
import Derived.Deep.RegionHeld3
import Derived.Laws.StructEq
import Derived.Lib.SliceRun
namespace Go.Proofs.Ytpmjhndkcdfpfaa
open Go.RowKit

theorem hide {p : Prop} (h : p) : Hid p := h
/-- a counter, as it stands -/
structure Bc where
  blk : Int
  last : Int
  res : Int
/-- what may be -/
structure Bc.ok (c : Bc) : Prop where
  b1 : 1 ≤ c.blk
  b2 : c.blk ≤ 16
  l0 : 0 ≤ c.last
  lr : c.last ≤ c.res
  r1 : c.res ≤ 1099511627776
/-- a new one -/
def bnew (block reserved : Int) : Bc := ⟨block, reserved, reserved⟩
def bnewE (block reserved : Int) : Int := if block < 1 ∨ 16 < block then 100 else if reserved < 0 ∨ 1099511627776 < reserved then 1 else 0
theorem bnew_ok {block reserved : Int} (h : bnewE block reserved = 0) : (bnew block reserved).ok := by
  unfold bnewE at h
  split at h
  · cases h
  · split at h
    · cases h
    · exact ⟨by show 1 ≤ block; omega, by show block ≤ 16; omega, by show 0 ≤ reserved; omega, Int.le_refl _, by show reserved ≤ 1099511627776; omega⟩
/-- the greatest -/
def up (r b : Int) : Int := if 1099511627776 < r + b then 1099511627776 else r + b
structure Bn where
  badge : Int
  reserve : Int
  e : Int
  c : Bc
def Bc.next (c : Bc) : Bn :=
  if c.last = 1099511627776 then ⟨0, 0, 101, c⟩
  else if c.last + 1 ≤ c.res then ⟨c.last + 1, 0, 0, ⟨c.blk, c.last + 1, c.res⟩⟩
  else ⟨c.last + 1, up c.res c.blk, 0, ⟨c.blk, c.last + 1, up c.res c.blk⟩⟩
theorem Bc.next_ok {c : Bc} (h : c.ok) : c.next.c.ok := by
  obtain ⟨h1, h2, h3, h4, h5⟩ := h
  unfold Bc.next up
  split
  · exact ⟨h1, h2, h3, h4, h5⟩
  · split
    · exact ⟨h1, h2, by show 0 ≤ c.last + 1; omega, by assumption, h5⟩
    · split
      · exact ⟨h1, h2, by show 0 ≤ c.last + 1; omega, by show c.last + 1 ≤ 1099511627776; omega, by show (1099511627776 : Int) ≤ 1099511627776; omega⟩
      · exact ⟨h1, h2, by show 0 ≤ c.last + 1; omega, by show c.last + 1 ≤ c.res + c.blk; omega, by show c.res + c.blk ≤ 1099511627776; omega⟩
theorem Bc.next_end {c : Bc} (h : c.last = 1099511627776) : c.next = ⟨0, 0, 101, c⟩ := if_pos h
theorem Bc.next_in {c : Bc} (h : c.last ≠ 1099511627776) (h2 : c.last + 1 ≤ c.res) : c.next = ⟨c.last + 1, 0, 0, ⟨c.blk, c.last + 1, c.res⟩⟩ := by unfold Bc.next; rw [if_neg h, if_pos h2]
theorem Bc.next_up {c : Bc} (h : c.last ≠ 1099511627776) (h2 : ¬ c.last + 1 ≤ c.res) : c.next = ⟨c.last + 1, up c.res c.blk, 0, ⟨c.blk, c.last + 1, up c.res c.blk⟩⟩ := by unfold Bc.next; rw [if_neg h, if_neg h2]

/-- a counter's block, of whatever type -/
def Cm (T : Nat) (w : World) (b : Nat) (c : Bc) : Prop := w.heap[b]? = some (.cells #[.int .i64 c.blk, .int .i64 c.last, .int .i64 c.res] T (0, 0))
theorem Cm.lt {T : Nat} {w : World} {b : Nat} {c : Bc} (h : Cm T w b c) : b < w.heap.size := lt_of_block h
theorem Cm.c0 {T : Nat} {w : World} {b : Nat} {c : Bc} (h : Cm T w b c) : w.cell? ⟨b, 0, none⟩ = some (.int .i64 c.blk) := by unfold Cm at h; simp [World.cell?, h]
theorem Cm.c1 {T : Nat} {w : World} {b : Nat} {c : Bc} (h : Cm T w b c) : w.cell? ⟨b, 1, none⟩ = some (.int .i64 c.last) := by unfold Cm at h; simp [World.cell?, h]
theorem Cm.c2 {T : Nat} {w : World} {b : Nat} {c : Bc} (h : Cm T w b c) : w.cell? ⟨b, 2, none⟩ = some (.int .i64 c.res) := by unfold Cm at h; simp [World.cell?, h]
theorem Cm.z {T : Nat} {w : World} {b : Nat} {c : Bc} (h : Cm T w b c) (k : Nat) : w.frozen? ⟨b, k, none⟩ = false := by unfold Cm at h; simp [World.frozen?, h]
/-- only block b is turned -/
structure On (b : Nat) (w w' : World) : Prop where
  os : w'.os = w.os
  tape : w'.tape = w.tape
  output : w'.output = w.output
  size : w.heap.size ≤ w'.heap.size
  block : ∀ k, k < w.heap.size → k ≠ b → w'.heap[k]? = w.heap[k]?
theorem On.below {b : Nat} {w w' : World} (h : On b w w') {B : Nat} (h1 : B ≤ b) (h2 : B ≤ w.heap.size) : Below B w w' := ⟨h.os, h.tape, h.output, h.size, fun k hk => h.block k (by omega) (by omega)⟩
theorem On.of_below {b : Nat} {w w' : World} (h : Below w.heap.size w w') : On b w w' := ⟨h.os, h.tape, h.output, h.size, fun k hk _ => h.block k hk⟩
theorem Cm.on {T b k : Nat} {w w' : World} {c : Bc} (h : Cm T w k c) (ho : On b w w') (hn : k ≠ b) : Cm T w' k c := (ho.block k h.lt hn).trans h
theorem Cm.below {T k : Nat} {w w' : World} {c : Bc} (h : Cm T w k c) (ho : Below w.heap.size w w') : Cm T w' k c := (ho.block k h.lt).trans h

theorem bnewE_b {x y : Int} (h : x < 1 ∨ 16 < x) : bnewE x y = 100 := if_pos h
theorem bnewE_r {x y : Int} (h : ¬ (x < 1 ∨ 16 < x)) (h2 : y < 0 ∨ 1099511627776 < y) : bnewE x y = 1 := by unfold bnewE; rw [if_neg h, if_pos h2]
theorem bnewE_0 {x y : Int} (h : ¬ (x < 1 ∨ 16 < x)) (h2 : ¬ (y < 0 ∨ 1099511627776 < y)) : bnewE x y = 0 := by unfold bnewE; rw [if_neg h, if_neg h2]
/-- what a call of New leaves -/
def NPost (T : Nat) (x y : Int) (w : World) (e : Ending) (w' : World) : Prop :=
  (bnewE x y ≠ 0 ∧ e = .returned (.tuple #[.pointer none, .int .i64 (bnewE x y)]) ∧ w' = w) ∨ (bnewE x y = 0 ∧ e = .returned (.tuple #[.pointer (some ⟨w.heap.size, 0, none⟩), .int .i64 0]) ∧ w' = w.alloc (.cells #[.int .i64 x, .int .i64 y, .int .i64 y] T (0, 0)))
theorem NPost.no {T : Nat} {x y : Int} {w : World} {e : Int} (h : bnewE x y = e) (h0 : e ≠ 0) : NPost T x y w (.returned (.tuple #[.pointer none, .int .i64 e])) w := .inl ⟨by rw [h]; exact h0, by rw [h], rfl⟩
theorem NPost.yes {T : Nat} {x y : Int} {w : World} (h : bnewE x y = 0) : NPost T x y w (.returned (.tuple #[.pointer (some ⟨w.heap.size, 0, none⟩), .int .i64 0])) (w.alloc (.cells #[.int .i64 x, .int .i64 y, .int .i64 y] T (0, 0))) := .inr ⟨h, rfl, rfl⟩
set_option maxHeartbeats 1000000 in
theorem bnew_any (w : World) {x y : Int} (hx : -9223372036854775808 ≤ x ∧ x ≤ 9223372036854775807) (hy : -9223372036854775808 ≤ y ∧ y ≤ 9223372036854775807) :
    Calls Try.prog 7 #[.int .i64 x, .int .i64 y] w (NPost 47 x y w) := by
  by_cases h1 : x < 1
  · have HE := hide ((bnewE_b (.inl h1)) : bnewE x y = 100)
    go_enter Try.func7, Try.ntmps7
    go_wp2
    go_ret2
    exact NPost.no HE.out (by decide)
  by_cases h2 : 16 < x
  · have HE := hide ((bnewE_b (.inr h2)) : bnewE x y = 100)
    go_enter Try.func7, Try.ntmps7
    go_wp2
    go_ret2
    exact NPost.no HE.out (by decide)
  by_cases h3 : y < 0
  · have HE := hide ((bnewE_r (by omega) (.inl h3)) : bnewE x y = 1)
    go_enter Try.func7, Try.ntmps7
    go_wp2
    go_ret2
    exact NPost.no HE.out (by decide)
  by_cases h4 : 1099511627776 < y
  · have HE := hide ((bnewE_r (by omega) (.inr h4)) : bnewE x y = 1)
    go_enter Try.func7, Try.ntmps7
    go_wp2
    go_ret2
    exact NPost.no HE.out (by decide)
  have HE := hide (bnewE_0 (x := x) (y := y) (by omega) (by omega))
  go_enter Try.func7, Try.ntmps7
  go_wp2
  go_ret2
  exact NPost.yes HE.out
set_option maxHeartbeats 1000000 in
theorem rnew_any (w : World) {x y : Int} (hx : -9223372036854775808 ≤ x ∧ x ≤ 9223372036854775807) (hy : -9223372036854775808 ≤ y ∧ y ≤ 9223372036854775807) :
    Calls Try.prog 8 #[.int .i64 x, .int .i64 y] w (NPost 42 x y w) := by
  by_cases h1 : x < 1
  · have HE := hide ((bnewE_b (.inl h1)) : bnewE x y = 100)
    go_enter Try.func8, Try.ntmps8
    go_wp2
    go_ret2
    exact NPost.no HE.out (by decide)
  by_cases h2 : 16 < x
  · have HE := hide ((bnewE_b (.inr h2)) : bnewE x y = 100)
    go_enter Try.func8, Try.ntmps8
    go_wp2
    go_ret2
    exact NPost.no HE.out (by decide)
  by_cases h3 : y < 0
  · have HE := hide ((bnewE_r (by omega) (.inl h3)) : bnewE x y = 1)
    go_enter Try.func8, Try.ntmps8
    go_wp2
    go_ret2
    exact NPost.no HE.out (by decide)
  by_cases h4 : 1099511627776 < y
  · have HE := hide ((bnewE_r (by omega) (.inr h4)) : bnewE x y = 1)
    go_enter Try.func8, Try.ntmps8
    go_wp2
    go_ret2
    exact NPost.no HE.out (by decide)
  have HE := hide (bnewE_0 (x := x) (y := y) (by omega) (by omega))
  go_enter Try.func8, Try.ntmps8
  go_wp2
  go_ret2
  exact NPost.yes HE.out
set_option maxHeartbeats 1000000 in
theorem last_any {w : World} {b : Nat} {c : Bc} (h : Cm 47 w b c) :
    Calls Try.prog 15 #[.pointer (some ⟨b, 0, none⟩)] w fun e w' => e = .returned (.int .i64 c.last) ∧ w' = w := by
  have c1 := h.c1
  go_enter Try.func15, Try.ntmps15
  go_wp2
  go_ret
  exact ⟨rfl, rfl⟩
set_option maxHeartbeats 1000000 in
theorem reserved_any {w : World} {b : Nat} {c : Bc} (h : Cm 47 w b c) :
    Calls Try.prog 16 #[.pointer (some ⟨b, 0, none⟩)] w fun e w' => e = .returned (.int .i64 c.res) ∧ w' = w := by
  have c2 := h.c2
  go_enter Try.func16, Try.ntmps16
  go_wp2
  go_ret
  exact ⟨rfl, rfl⟩
set_option maxHeartbeats 1000000 in
theorem clone_any {w : World} {b : Nat} {c : Bc} (h : Cm 47 w b c) :
    Calls Try.prog 13 #[.pointer (some ⟨b, 0, none⟩)] w fun e w' => e = .returned (.pointer (some ⟨w.heap.size, 0, none⟩)) ∧ Cm 47 w' w.heap.size c ∧ Below w.heap.size w w' := by
  have c0 := h.c0
  have c1 := h.c1
  have c2 := h.c2
  go_enter Try.func13, Try.ntmps13
  go_wp2
  go_ret
  exact ⟨rfl, heap_alloc_new w _, (Below.refl _ w).alloc (Nat.le_refl _) _⟩
end Go.Proofs.Ytpmjhndkcdfpfaa
