import Derived.Test.YtkfnedhllfdghaaGreatDoorMgAN
import Derived.Laws.EntriesVeiled
import Derived.Laws.ResultCell
import Derived.Laws.Rows
import Derived.Deep.RegionHeld3
import Derived.Test.YtkfnedhllfdghaaGreatDoorMgAD
import Derived.Laws.Concat

section
namespace Go.Proofs.YtkfnedhllfdghaaGreatDoor.W
set_option maxRecDepth 20000
open Go.RowKit

/-- a block of one cell -/
def Bx (w : World) (X : Nat) (v : Value) (t : TypeId) : Prop := w.heap[X]? = some (.cells #[v] t (0, 0))
theorem Bx.c {w : World} {X : Nat} {v : Value} {t : TypeId} (h : Bx w X v t) : w.cell? ⟨X, 0, none⟩ = some v := by unfold Bx at h; simp [World.cell?, h]
/-- the boxes of a whole number's field -/
structure W3 (w : World) (X : Nat) (at_ : Addr) (lo hi : Int) : Prop where
  a : Bx w X (.pointer (some at_)) 251
  l : Bx w (X + 1) (.int .i64 lo) 3
  h : Bx w (X + 2) (.int .i64 hi) 3
structure T3 (w : World) (X : Nat) (at_ : Addr) (lo hi : Int) : Prop where
  a : Bx w X (.pointer (some at_)) 255
  l : Bx w (X + 1) (.int .i64 lo) 3
  h : Bx w (X + 2) (.int .i64 hi) 3
def p0 (X : Nat) : Value := .pointer (some ⟨X, 0, none⟩)
def wF (X : Nat) : Array Value := #[.func (.func 199) #[] #[p0 (X + 1), p0 X, p0 (X + 2)], .func (.func 200) #[] #[p0 X], .func (.func 201) #[] #[p0 X], .func (.func 202) #[] #[p0 (X + 2), p0 X]]
def tF (X : Nat) : Array Value := #[.func (.func 210) #[] #[p0 (X + 1), p0 X, p0 (X + 2)], .func (.func 211) #[] #[p0 X], .func (.func 212) #[] #[p0 X], .func (.func 214) #[] #[p0 (X + 2), p0 X]]
theorem hmf : ∀ (fn : Fn) (first cap : Array Value) (w : World), (Instr.makeFunc fn first cap).run Tryz.prog w = .ok (.func fn first cap) w := fun _ _ _ _ => rfl

theorem cells_set {w : World} {B : Nat} {cs : Array Value} {t : TypeId} (h : w.heap[B]? = some (.cells cs t (0, 0))) (k : Nat) (u : Value) : (w.setCell ⟨B, k, none⟩ u).heap[B]? = some (.cells (cs.setIfInBounds k u) t (0, 0)) := by
  have hlt := lt_of_block h
  have h' : w.heap[B] = .cells cs t (0, 0) := by simpa [Array.getElem?_eq_getElem hlt] using h
  show (w.heap.modify B _)[B]? = _
  rw [Array.getElem?_eq_getElem (by simpa using hlt), Array.getElem_modify_self, h']
  rfl
theorem four_blocks (w : World) (o1 o2 o3 o4 : Obj) : ((((w.alloc o1).alloc o2).alloc o3).alloc o4).heap[w.heap.size]? = some o1 ∧ ((((w.alloc o1).alloc o2).alloc o3).alloc o4).heap[w.heap.size + 1]? = some o2 ∧
    ((((w.alloc o1).alloc o2).alloc o3).alloc o4).heap[w.heap.size + 2]? = some o3 ∧ ((((w.alloc o1).alloc o2).alloc o3).alloc o4).heap[w.heap.size + 3]? = some o4 ∧ Below w.heap.size w ((((w.alloc o1).alloc o2).alloc o3).alloc o4) := by
  refine ⟨?_, ?_, ?_, ?_, ?_⟩
  · rw [Below.heap_alloc _ _ _ (by simp; omega), Below.heap_alloc _ _ _ (by simp; omega), Below.heap_alloc _ _ _ (by simp), heap_alloc_new]
  · rw [Below.heap_alloc _ _ _ (by simp), Below.heap_alloc _ _ _ (by simp)]; simpa using heap_alloc_new (w.alloc o1) o2
  · rw [Below.heap_alloc _ _ _ (by simp)]; simpa using heap_alloc_new ((w.alloc o1).alloc o2) o3
  · simpa using heap_alloc_new (((w.alloc o1).alloc o2).alloc o3) o4
  exact ((((Below.refl _ _).alloc (Nat.le_refl _) _).alloc (by simp) _).alloc (by simp; omega) _).alloc (by simp; omega) _
set_option maxHeartbeats 400000 in
theorem wholeAt_any (at_ : Addr) (lo hi : Int) (w : World) :
    Calls Tryz.prog 177 #[.pointer (some at_), .int .i64 lo, .int .i64 hi] w fun e w' => e = .returned (.agg (wF w.heap.size)) ∧ Below w.heap.size w w' ∧ w.heap.size + 3 < w'.heap.size ∧ W3 w' w.heap.size at_ lo hi := by
  have hmf := hmf
  go_enter Tryz.func177, Tryz.ntmps177
  go_wp2
  obtain ⟨b1, b2, b3, b4, bb⟩ := four_blocks w (.cells #[.pointer (some at_)] 251) (.cells #[.int .i64 lo] 3) (.cells #[.int .i64 hi] 3) (.cells (wF w.heap.size) 179)
  exact bodyPost_ret (results_cell_row (p := 6) (ty := 179) rfl _ _ (w.heap.size + 3) 179 _ (0, 0) _ rfl b4 Tryz.underlying179 rfl (by kernel_rfl)) rfl ⟨rfl, bb, lt_of_block b4, b1, b2, b3⟩
set_option maxHeartbeats 400000 in
theorem textAt_any (at_ : Addr) (lo hi : Int) (w : World) :
    Calls Tryz.prog 181 #[.pointer (some at_), .int .i64 lo, .int .i64 hi] w fun e w' => e = .returned (.agg (tF w.heap.size)) ∧ Below w.heap.size w w' ∧ w.heap.size + 3 < w'.heap.size ∧ T3 w' w.heap.size at_ lo hi := by
  have hmf := hmf
  go_enter Tryz.func181, Tryz.ntmps181
  go_wp2
  obtain ⟨b1, b2, b3, b4, bb⟩ := four_blocks w (.cells #[.pointer (some at_)] 255) (.cells #[.int .i64 lo] 3) (.cells #[.int .i64 hi] 3) (.cells (tF w.heap.size) 179)
  exact bodyPost_ret (results_cell_row (p := 6) (ty := 179) rfl _ _ (w.heap.size + 3) 179 _ (0, 0) _ rfl b4 Tryz.underlying179 rfl (by kernel_rfl)) rfl ⟨rfl, bb, lt_of_block b4, b1, b2, b3⟩
end Go.Proofs.YtkfnedhllfdghaaGreatDoor.W
end

section
namespace Go.Proofs.YtkfnedhllfdghaaGreatDoor.W
set_option maxRecDepth 20000
open Go.RowKit

theorem hide {p : Prop} (h : p) : Hid p := h
/-- the reader's calls, however it stands -/
theorem rnumP {w : World} {B p f most : Nat} {b : ByteArray} (h : Rd w B b p f) (hp : p ≤ b.size) (hb : b.size ≤ 140737488351232) :
    Calls Tryz.prog 100 #[.pointer (some ⟨B, 0, none⟩), .int .u64 (most : Int)] w fun e w' => e = .returned (.int .u64 ((Wr.rdN b most p f).1 : Int)) ∧ Rd w' B b ((Wr.rdN b most p f).2.1 : Int) ((Wr.rdN b most p f).2.2 : Int) ∧ w.grownBy w' (some B) := by
  by_cases hf : f = 0
  · subst hf
    refine (rnum_any (most := most) h hp hb).mono ?_
    intro e w' hF
    by_cases hk : numK b p most 21 = 0
    · obtain ⟨e1, e2⟩ := hF.ok hk
      unfold Wr.rdN; rw [if_neg (by simp), if_pos hk]; exact ⟨e1, e2, hF.grown⟩
    · obtain ⟨e1, e2⟩ := hF.no hk
      unfold Wr.rdN; rw [if_neg (by simp), if_neg hk]; exact ⟨e1, e2, hF.grown⟩
  · refine (rnum_dead (most := most) h (by omega)).mono ?_
    rintro e w' ⟨e1, hbl⟩
    rw [Wr.rdN_dead hf]; exact ⟨e1, h.below hbl h.lt, grown_below hbl _⟩
theorem rnumQ {w : World} {B p f most : Nat} {b : ByteArray} {x : Int} (h : Rd w B b p f) (hp : p ≤ b.size) (hb : b.size ≤ 140737488351232) (hx : x = (most : Int)) :
    Calls Tryz.prog 100 #[.pointer (some ⟨B, 0, none⟩), .int .u64 x] w fun e w' => e = .returned (.int .u64 ((Wr.rdN b most p f).1 : Int)) ∧ Rd w' B b ((Wr.rdN b most p f).2.1 : Int) ((Wr.rdN b most p f).2.2 : Int) ∧ w.grownBy w' (some B) := by
  subst hx; exact rnumP h hp hb
theorem rtextP {w : World} {B p f most : Nat} {b : ByteArray} (h : Rd w B b p f) (hp : p ≤ b.size) (hb : b.size ≤ 140737488351232) (hm : most ≤ 9223372036854775807) :
    Calls Tryz.prog 215 #[.pointer (some ⟨B, 0, none⟩), .int .i64 (most : Int)] w fun e w' => e = .returned (.string (Wr.rdT b most p f).1) ∧ Rd w' B b ((Wr.rdT b most p f).2.1 : Int) ((Wr.rdT b most p f).2.2 : Int) ∧ w.grownBy w' (some B) := by
  by_cases hf : f = 0
  · subst hf
    refine (rtext_any (most := (most : Int)) (by omega) h hp hb).mono ?_
    rw [show ((most : Int)).toNat = most from rfl]
    intro e w' hF
    by_cases hk : textK b p most = 0
    · obtain ⟨e1, e2⟩ := hF.ok hk
      unfold Wr.rdT; rw [if_neg (by simp), if_pos hk]; exact ⟨e1, e2, hF.grown⟩
    · obtain ⟨e1, e2⟩ := hF.no hk
      unfold Wr.rdT; rw [if_neg (by simp), if_neg hk]; exact ⟨e1, e2, hF.grown⟩
  · refine (rtext_dead (most := (most : Int)) h (by omega)).mono ?_
    rintro e w' ⟨e1, hbl⟩
    rw [Wr.rdT_dead hf]; exact ⟨e1, h.below hbl h.lt, grown_below hbl _⟩
theorem rbitsP {w : World} {B p f : Nat} {b : ByteArray} (h : Rd w B b p f) (hp : p ≤ b.size) (hb : b.size ≤ 140737488351232) :
    Calls Tryz.prog 209 #[.pointer (some ⟨B, 0, none⟩)] w fun e w' => e = .returned (.int .u64 ((Wr.rdB b p f).1 : Int)) ∧ Rd w' B b ((Wr.rdB b p f).2.1 : Int) ((Wr.rdB b p f).2.2 : Int) ∧ w.grownBy w' (some B) := by
  by_cases hf : f = 0
  · subst hf
    refine (rbits_any h hp hb).mono ?_
    intro e w' hF
    by_cases hk : bitsK b p = 0
    · obtain ⟨e1, e2⟩ := hF.ok hk
      unfold Wr.rdB; rw [if_neg (by simp), if_pos hk]; exact ⟨e1, e2, hF.grown⟩
    · obtain ⟨e1, e2⟩ := hF.no hk
      unfold Wr.rdB; rw [if_neg (by simp), if_neg hk]; exact ⟨e1, e2, hF.grown⟩
  · refine (rbits_dead h (by omega)).mono ?_
    rintro e w' ⟨e1, hbl⟩
    rw [Wr.rdB_dead hf]; exact ⟨e1, h.below hbl h.lt, grown_below hbl _⟩

set_option maxHeartbeats 400000 in
theorem whole1_any {w : World} {X : Nat} {a : Addr} {lo hi : Int} {x : Int} (h : W3 w X a lo hi) (ha : w.cell? a = some (.int .i64 x)) :
    Calls Tryz.prog 199 #[p0 (X + 1), p0 X, p0 (X + 2)] w fun e w' => e = .returned (.bool (decide (lo ≤ x ∧ x ≤ hi))) ∧ ∃ n, w' = w.drewN n := by
  have c0 := h.a.c
  have c1 := h.l.c
  have c2 := h.h.c
  unfold p0
  by_cases h1 : lo ≤ x
  · go_enter Tryz.func199, Tryz.ntmps199
    go_wp2_with fail
    go_quiet (fail)
    go_wp2
    go_ret
    exact ⟨congrArg (fun z => Ending.returned (Value.bool z)) (show decide (x ≤ hi) = decide (lo ≤ x ∧ x ≤ hi) by simp [h1]), _, rfl⟩
  · have hd : decide (lo ≤ x) = false := decide_eq_false h1
    go_enter Tryz.func199, Tryz.ntmps199
    go_wp2_with fail
    go_quiet (fail)
    go_wp2
    go_ret
    exact ⟨congrArg (fun z => Ending.returned (Value.bool z)) (show false = decide (lo ≤ x ∧ x ≤ hi) from (decide_eq_false (by omega)).symm), _, rfl⟩
set_option maxHeartbeats 400000 in
theorem whole2_any {w : World} {X : Nat} {a : Addr} {lo hi : Int} {x : Int} (h : W3 w X a lo hi) (ha : w.cell? a = some (.int .i64 x)) (hz : w.frozen? a = false) :
    Calls Tryz.prog 200 #[p0 X] w fun e w' => e = .returned (.tuple #[]) ∧ w' = w.setCell a (.int .i64 0) := by
  have c0 := h.a.c
  unfold p0
  go_enter Tryz.func200, Tryz.ntmps200
  go_wp2_with fail
  go_end0
  exact ⟨rfl, rfl⟩
set_option maxHeartbeats 400000 in
theorem txt1_any {w : World} {X : Nat} {a : Addr} {lo hi : Int} {x : ByteArray} (h : T3 w X a lo hi) (ha : w.cell? a = some (.string x)) :
    Calls Tryz.prog 210 #[p0 (X + 1), p0 X, p0 (X + 2)] w fun e w' => e = .returned (.bool (decide (lo ≤ (x.size : Int) ∧ (x.size : Int) ≤ hi))) ∧ ∃ n, w' = w.drewN n := by
  have c0 := h.a.c
  have c1 := h.l.c
  have c2 := h.h.c
  unfold p0
  by_cases h1 : lo ≤ (x.size : Int)
  · go_enter Tryz.func210, Tryz.ntmps210
    go_wp2_with fail
    go_quiet (fail)
    go_wp2
    go_ret
    exact ⟨congrArg (fun z => Ending.returned (Value.bool z)) (show decide ((x.size : Int) ≤ hi) = decide (lo ≤ (x.size : Int) ∧ (x.size : Int) ≤ hi) by simp [h1]), _, rfl⟩
  · have hd : decide (lo ≤ (x.size : Int)) = false := decide_eq_false h1
    go_enter Tryz.func210, Tryz.ntmps210
    go_wp2_with fail
    go_quiet (fail)
    go_wp2
    go_ret
    exact ⟨congrArg (fun z => Ending.returned (Value.bool z)) (show false = decide (lo ≤ (x.size : Int) ∧ (x.size : Int) ≤ hi) from (decide_eq_false (by omega)).symm), _, rfl⟩
set_option maxHeartbeats 400000 in
theorem txt2_any {w : World} {X : Nat} {a : Addr} {lo hi : Int} {x : ByteArray} (h : T3 w X a lo hi) (ha : w.cell? a = some (.string x)) (hz : w.frozen? a = false) :
    Calls Tryz.prog 211 #[p0 X] w fun e w' => e = .returned (.tuple #[]) ∧ w' = w.setCell a (.string ⟨#[]⟩) := by
  have c0 := h.a.c
  unfold p0
  go_enter Tryz.func211, Tryz.ntmps211
  go_wp2_with fail
  go_end0
  exact ⟨rfl, rfl⟩
set_option maxHeartbeats 400000 in
theorem whole3_any {w : World} {X : Nat} {a : Addr} {lo hi : Int} {x : Nat} (h : W3 w X a lo hi) (ha : w.cell? a = some (.int .i64 (x : Int))) (hx : x < 9223372036854775808) :
    Calls Tryz.prog 201 #[p0 X] w fun e w' => e = .returned (.string ⟨(Pk.enc x).toArray⟩) ∧ Below w.heap.size w w' := by
  have c0 := h.a.c
  unfold p0
  go_enter Tryz.func201, Tryz.ntmps201
  go_wp2_with fail
  refine (pnum_any x (by omega) _).mono ?_
  rintro e w' ⟨rfl, hb⟩
  go_wp2_with fail
  go_ret
  exact ⟨rfl, hb⟩
theorem cell_other {w : World} {a c : Addr} {u v : Value} (h : w.cell? c = some v) (hn : c.block ≠ a.block) : (w.setCell a u).cell? c = some v := by
  unfold World.cell? at h ⊢
  rw [Below.heap_setCell w a u _ hn]; exact h
theorem grown_frozen {w w' : World} {r : Option Nat} (g : w.grownBy w' r) {a : Addr} (h : w.frozen? a = false) (hl : a.block < w.heap.size) (hn : some a.block ≠ r) : w'.frozen? a = false := by
  unfold World.frozen? at h ⊢
  rw [g.block a.block hl hn]; exact h
set_option maxHeartbeats 400000 in
theorem whole4_any {w : World} {X B p f most : Nat} {b : ByteArray} {a : Addr} {lo : Int} {v : Value} (h : W3 w X a lo (most : Int)) (ha : w.cell? a = some v) (hz : w.frozen? a = false) (hR : Rd w B b p f) (hp : p ≤ b.size) (hb : b.size ≤ 140737488351232)
    (hm : most < 9223372036854775808) (haB : a.block ≠ B) (haX : a.block < X) (hXB : B < X) :
    Calls Tryz.prog 202 #[.pointer (some ⟨B, 0, none⟩), p0 (X + 2), p0 X] w fun e w' => e = .returned (.tuple #[]) ∧ ∃ w1, w.grownBy w1 (some B) ∧ Rd w1 B b ((Wr.rdN b most p f).2.1 : Int) ((Wr.rdN b most p f).2.2 : Int) ∧ w' = w1.setCell a (.int .i64 ((Wr.rdN b most p f).1 : Int)) := by
  have c0 := h.a.c
  have c2 := h.h.c
  have hle := (Wr.rdN_le b most p f hp).1
  have haw := World.block_lt_of_cell? _ _ ha
  have n0 : X ≠ a.block := by omega
  have n2 : X + 2 ≠ a.block := by omega
  unfold p0
  go_enter Tryz.func202, Tryz.ntmps202
  go_wp2_with fail
  go_region_held3 (fun w' => w'.cell? ⟨X, 0, none⟩ = some (.pointer (some a)) ∧ w'.cell? ⟨X + 2, 0, none⟩ = some (.int .i64 (most : Int))) (first | go_keep | exact ⟨s0 _, s2 _⟩) (first
    | (go_at_call 100; refine (rnumQ (most := most) (hR.drew _) hp hb (by first | rfl | omega | (rw [IntKind.wrap_u64]; omega))).mono ?_; rintro e w1 ⟨rfl, hR1, hg1⟩; have k0 := hg1.cell c0 (show some X ≠ some B by simp; omega); have k2 := hg1.cell c2 (show some (X + 2) ≠ some B by simp; omega); have ka := hg1.cell ha (show some a.block ≠ some B by simpa using haB); have kz := grown_frozen hg1 hz haw (show some a.block ≠ some B by simpa using haB); have s0 := fun u => cell_other k0 (u := u) n0; have s2 := fun u => cell_other k2 (u := u) n2))
  go_wp2
  go_end0
  have hw : IntKind.i64.wrap ((Wr.rdN b most p f).1 : Int) = ((Wr.rdN b most p f).1 : Int) := by rw [IntKind.wrap_i64]; omega
  exact ⟨rfl, _, grown_trans (grown_drew w 1 _) hg1, hR1, by rw [hw]⟩
set_option maxHeartbeats 400000 in
theorem txt3_any {w : World} {X : Nat} {a : Addr} {lo hi : Int} {x : ByteArray} (h : T3 w X a lo hi) (ha : w.cell? a = some (.string x)) (hx : x.size ≤ 140737488351232) :
    Calls Tryz.prog 212 #[p0 X] w fun e w' => e = .returned (.string ((⟨(Pk.enc x.size).toArray⟩ : ByteArray) ++ x)) ∧ Below w.heap.size w w' := by
  have c0 := h.a.c
  unfold p0
  go_enter Tryz.func212, Tryz.ntmps212
  go_wp2_with fail
  refine (ptext_any x hx _).mono ?_
  rintro e w' ⟨rfl, hb⟩
  go_wp2_with fail
  go_ret
  exact ⟨rfl, hb⟩
set_option maxHeartbeats 400000 in
theorem txt4_any {w : World} {X B p f most : Nat} {b : ByteArray} {a : Addr} {lo : Int} {v : Value} (h : T3 w X a lo (most : Int)) (ha : w.cell? a = some v) (hz : w.frozen? a = false) (hR : Rd w B b p f) (hp : p ≤ b.size) (hb : b.size ≤ 140737488351232)
    (hm : most < 9223372036854775808) (haB : a.block ≠ B) (haX : a.block < X) (hXB : B < X) :
    Calls Tryz.prog 214 #[.pointer (some ⟨B, 0, none⟩), p0 (X + 2), p0 X] w fun e w' => e = .returned (.tuple #[]) ∧ ∃ w1, w.grownBy w1 (some B) ∧ Rd w1 B b ((Wr.rdT b most p f).2.1 : Int) ((Wr.rdT b most p f).2.2 : Int) ∧ w' = w1.setCell a (.string (Wr.rdT b most p f).1) := by
  have c0 := h.a.c
  have c2 := h.h.c
  have haw := World.block_lt_of_cell? _ _ ha
  have n0 : X ≠ a.block := by omega
  have n2 : X + 2 ≠ a.block := by omega
  unfold p0
  go_enter Tryz.func214, Tryz.ntmps214
  go_wp2_with fail
  go_region_held3 (fun w' => w'.cell? ⟨X, 0, none⟩ = some (.pointer (some a)) ∧ w'.cell? ⟨X + 2, 0, none⟩ = some (.int .i64 (most : Int))) (first | go_keep | exact ⟨s0 _, s2 _⟩) (first
    | (go_at_call 215; refine (rtextP (most := most) (hR.drew _) hp hb (by omega)).mono ?_; rintro e w1 ⟨rfl, hR1, hg1⟩; have k0 := hg1.cell c0 (show some X ≠ some B by simp; omega); have k2 := hg1.cell c2 (show some (X + 2) ≠ some B by simp; omega); have ka := hg1.cell ha (show some a.block ≠ some B by simpa using haB); have kz := grown_frozen hg1 hz haw (show some a.block ≠ some B by simpa using haB); have s0 := fun u => cell_other k0 (u := u) n0; have s2 := fun u => cell_other k2 (u := u) n2))
  go_wp2
  go_end0
  exact ⟨rfl, _, grown_trans (grown_drew w 1 _) hg1, hR1, rfl⟩
set_option maxHeartbeats 400000 in
theorem mayBits_any (c : Int) (n : Nat) (hn : n < 18446744073709551616) (w : World) :
    Calls Tryz.prog 204 #[.agg #[.int .i64 c, .int .u64 (n : Int)]] w fun e w' => e = .returned (.bool (Wr.canonB c n)) ∧ Below w.heap.size w w' := by
  have HC := hide (canon_any n hn)
  have hcb : c = 0 → Wr.canonB c n = decide (Gn.canonW n = n) := by
    intro hc
    unfold Wr.canonB Gn.canonW
    rw [if_neg (by simpa using hc)]
    by_cases h : n % 9223372036854775808 > 9218868437227405312
    · rw [if_pos h]; congr 1; apply propext; constructor
      · rintro (h' | h') <;> omega
      · intro h'; exact .inr h'.symm
    · rw [if_neg h]; simp; omega
  by_cases h0 : c = 0
  · have hcb := hcb h0
    subst h0
    have HB := hide hcb
    clear hcb
    go_enter Tryz.func204, Tryz.ntmps204
    go_wp2_with fail
    go_quiet ((go_at_call 250; exact Calls.quiet_of_same (HC.out _)))
    go_wp2
    go_ret
    refine ⟨congrArg (fun z => Ending.returned (Value.bool z)) (show ((Gn.canonW n : Int) == (n : Int)) = Wr.canonB 0 n by rw [HB.out, Bool.eq_iff_iff]; simp; omega), ?_⟩
    have hb := below_alloc w (.cells #[.int .i64 0, .int .u64 (n : Int)] 46)
    exact ⟨hb.os, hb.tape, hb.output, hb.size, hb.block⟩
  · have hcb : Wr.canonB c n = decide (n = 0) := by unfold Wr.canonB; rw [if_pos h0]
    have HB := hide hcb
    clear hcb
    go_enter Tryz.func204, Tryz.ntmps204
    go_wp2
    go_ret
    exact ⟨congrArg (fun z => Ending.returned (Value.bool z)) (show ((n : Int) == 0) = Wr.canonB c n by rw [HB.out, Bool.eq_iff_iff]; simp), below_alloc _ _⟩
end Go.Proofs.YtkfnedhllfdghaaGreatDoor.W
end

section
namespace Go.Proofs.YtkfnedhllfdghaaGreatDoor.W
set_option maxRecDepth 20000
open Go.RowKit

def rF (X C : Nat) : Array Value := #[.func (.func 203) #[] #[p0 C, p0 X], .func (.func 205) #[] #[p0 X], .func (.func 206) #[] #[p0 C, p0 X], .func (.func 208) #[] #[p0 C, p0 X]]
structure R3 (w : World) (X Y C A : Nat) (o : Nat) : Prop where
  a : Bx w X (.pointer (some ⟨A, o, none⟩)) 253
  c : W3 w Y ⟨A, o, none⟩ 0 7
  f : w.heap[C]? = some (.cells (wF Y) 179 (0, 0))
theorem R3.c0 {w : World} {X Y C A o : Nat} (h : R3 w X Y C A o) : w.cell? ⟨C, 0, none⟩ = some (.func (.func 199) #[] #[p0 (Y + 1), p0 Y, p0 (Y + 2)]) := by have := h.f; simp [World.cell?, this, wF]
theorem R3.c2 {w : World} {X Y C A o : Nat} (h : R3 w X Y C A o) : w.cell? ⟨C, 2, none⟩ = some (.func (.func 201) #[] #[p0 Y]) := by have := h.f; simp [World.cell?, this, wF]
theorem R3.c3 {w : World} {X Y C A o : Nat} (h : R3 w X Y C A o) : w.cell? ⟨C, 3, none⟩ = some (.func (.func 202) #[] #[p0 (Y + 2), p0 Y]) := by have := h.f; simp [World.cell?, this, wF]

set_option maxHeartbeats 400000 in
theorem resultAt_any (A o : Nat) (w : World) :
    Calls Tryz.prog 180 #[.pointer (some ⟨A, o, none⟩)] w fun e w' => ∃ Y C, w.heap.size ≤ Y ∧ w.heap.size ≤ C ∧ e = .returned (.agg (rF w.heap.size C)) ∧ Below w.heap.size w w' ∧ R3 w' w.heap.size Y C A o := by
  have hmf := hmf
  go_enter Tryz.func180, Tryz.ntmps180
  go_wp2_with fail
  refine (wholeAt_any ⟨A, o, none⟩ 0 7 _).mono ?_
  rintro e w1 ⟨rfl, hb1, hs1, h3⟩
  have hR : w1.heap[w.heap.size + 1]? = some (.cells #[.nilFunc, .nilFunc, .nilFunc, .nilFunc] 179 (0, 0)) := (hb1.block _ (by simp)).trans (by simpa using heap_alloc_new (w.alloc (.cells #[.pointer (some ⟨A, o, none⟩)] 253)) (.cells #[.nilFunc, .nilFunc, .nilFunc, .nilFunc] 179))
  have hRl := lt_of_block hR
  have hRa : ∀ ob, (w1.alloc ob).heap[w.heap.size + 1]? = some (.cells #[.nilFunc, .nilFunc, .nilFunc, .nilFunc] 179 (0, 0)) := fun ob => (Below.heap_alloc w1 ob _ hRl).trans hR
  have hc1 := fun v0 => cells_set hR 0 v0
  have hc2 := fun v0 v1 => cells_set (hc1 v0) 1 v1
  have hc3 := fun v0 v1 v2 => cells_set (hc2 v0 v1) 2 v2
  have hc4 := fun v0 v1 v2 v3 => cells_set (hc3 v0 v1 v2) 3 v3
  have q0 : ∀ ob, (w1.alloc ob).cell? ⟨w.heap.size + 1, 0, none⟩ = some .nilFunc := fun ob => by simp [World.cell?, hRa ob]
  have q1 : ∀ ob v0, ((w1.setCell ⟨w.heap.size + 1, 0, none⟩ v0).alloc ob).cell? ⟨w.heap.size + 1, 1, none⟩ = some .nilFunc := fun ob v0 => Lib.cell?_alloc_some _ (by simp [World.cell?, hc1 v0])
  have q2 : ∀ ob v0 v1, (((w1.setCell ⟨w.heap.size + 1, 0, none⟩ v0).setCell ⟨w.heap.size + 1, 1, none⟩ v1).alloc ob).cell? ⟨w.heap.size + 1, 2, none⟩ = some .nilFunc := fun ob v0 v1 => Lib.cell?_alloc_some _ (by simp [World.cell?, hc2 v0 v1])
  have q3 : ∀ ob v0 v1 v2, ((((w1.setCell ⟨w.heap.size + 1, 0, none⟩ v0).setCell ⟨w.heap.size + 1, 1, none⟩ v1).setCell ⟨w.heap.size + 1, 2, none⟩ v2).alloc ob).cell? ⟨w.heap.size + 1, 3, none⟩ = some .nilFunc := fun ob v0 v1 v2 => Lib.cell?_alloc_some _ (by simp [World.cell?, hc3 v0 v1 v2])
  have fz : ∀ (w2 : World) (ob : Obj) (cs : Array Value) (k : Nat), w2.heap[w.heap.size + 1]? = some (.cells cs 179 (0, 0)) → (w2.alloc ob).frozen? ⟨w.heap.size + 1, k, none⟩ = false := fun w2 ob cs k h => by simp [World.frozen?, Below.heap_alloc w2 ob _ (lt_of_block h), h]
  have z0 := fun ob k => fz _ ob _ k hR
  have z1 := fun ob k v0 => fz _ ob _ k (hc1 v0)
  have z2 := fun ob k v0 v1 => fz _ ob _ k (hc2 v0 v1)
  have z3 := fun ob k v0 v1 v2 => fz _ ob _ k (hc3 v0 v1 v2)
  clear hc1 hc2 hc3 fz
  have HC4 := hide hc4
  have HR := hide hR
  clear hc4 hR hRa
  have fin : ∀ v0 v1 v2 v3 ob k, k ≠ w.heap.size + 1 → k < w1.heap.size → (((((w1.setCell ⟨w.heap.size + 1, 0, none⟩ v0).setCell ⟨w.heap.size + 1, 1, none⟩ v1).setCell ⟨w.heap.size + 1, 2, none⟩ v2).setCell ⟨w.heap.size + 1, 3, none⟩ v3).alloc ob).heap[k]? = w1.heap[k]? := fun v0 v1 v2 v3 ob k hk hl => by
    rw [Below.heap_alloc _ _ _ (by simpa using hl), Below.heap_setCell _ _ _ _ hk, Below.heap_setCell _ _ _ _ hk, Below.heap_setCell _ _ _ _ hk, Below.heap_setCell _ _ _ _ hk]
  have fib : ∀ v0 v1 v2 v3 ob, Below w.heap.size w (((((w1.setCell ⟨w.heap.size + 1, 0, none⟩ v0).setCell ⟨w.heap.size + 1, 1, none⟩ v1).setCell ⟨w.heap.size + 1, 2, none⟩ v2).setCell ⟨w.heap.size + 1, 3, none⟩ v3).alloc ob) := fun v0 v1 v2 v3 ob =>
    ⟨hb1.os, hb1.tape, hb1.output, by have := hb1.size; simp at this ⊢; omega, fun k hk => (fin v0 v1 v2 v3 ob k (by omega) (by omega)).trans ((hb1.block k (by simp; omega)).trans ((below_two w _ _).block k hk))⟩
  have fir : ∀ v0 v1 v2 v3 ob, (((((w1.setCell ⟨w.heap.size + 1, 0, none⟩ v0).setCell ⟨w.heap.size + 1, 1, none⟩ v1).setCell ⟨w.heap.size + 1, 2, none⟩ v2).setCell ⟨w.heap.size + 1, 3, none⟩ v3).alloc ob).heap[w.heap.size + 1]? = some (.cells #[v0, v1, v2, v3] 179 (0, 0)) := fun v0 v1 v2 v3 ob => (Below.heap_alloc _ _ _ (by simpa using hRl)).trans (HC4.out v0 v1 v2 v3)
  have fic : ∀ v0 v1 v2 v3 ob, (((((w1.setCell ⟨w.heap.size + 1, 0, none⟩ v0).setCell ⟨w.heap.size + 1, 1, none⟩ v1).setCell ⟨w.heap.size + 1, 2, none⟩ v2).setCell ⟨w.heap.size + 1, 3, none⟩ v3).alloc ob).heap[w1.heap.size]? = some ob := fun v0 v1 v2 v3 ob => by simpa using heap_alloc_new ((((w1.setCell ⟨w.heap.size + 1, 0, none⟩ v0).setCell ⟨w.heap.size + 1, 1, none⟩ v1).setCell ⟨w.heap.size + 1, 2, none⟩ v2).setCell ⟨w.heap.size + 1, 3, none⟩ v3) ob
  have hX : w1.heap[w.heap.size]? = some (.cells #[.pointer (some ⟨A, o, none⟩)] 253 (0, 0)) := (hb1.block _ (by simp; omega)).trans ((Below.heap_alloc _ _ _ (by simp)).trans (heap_alloc_new w _))
  have h3 : W3 w1 (w.heap.size + 1 + 1) ⟨A, o, none⟩ 0 7 := by simpa using h3
  have hs1 : w.heap.size + 1 + 1 + 3 < w1.heap.size := by simpa using hs1
  have F := hide (And.intro fin (And.intro fib (And.intro fir (And.intro fic (And.intro h3 hX)))))
  clear fin fib fir fic h3 hX hb1
  unfold wF p0
  go_wp2
  obtain ⟨fin, fib, fir, fic, h3, hX⟩ := F.out
  exact bodyPost_ret (results_cell_row (p := 2) (ty := 179) rfl _ _ (w.heap.size + 1) 179 _ (0, 0) _ rfl (fir _ _ _ _ _) Tryz.underlying179 rfl (by kernel_rfl)) rfl
    ⟨w.heap.size + 1 + 1, w1.heap.size, by omega, by omega, rfl, fib _ _ _ _ _, (fin _ _ _ _ _ _ (by omega) (by omega)).trans hX, ⟨(fin _ _ _ _ _ _ (by omega) (by omega)).trans h3.a, (fin _ _ _ _ _ _ (by omega) (by omega)).trans h3.l, (fin _ _ _ _ _ _ (by omega) (by omega)).trans h3.h⟩, fic _ _ _ _ _⟩
set_option maxHeartbeats 400000 in
theorem res1_any {w : World} {X Y C A o : Nat} {c : Int} {n : Nat} (h : R3 w X Y C A o) (ha : w.cell? ⟨A, o, none⟩ = some (.int .i64 c)) (hb : w.cell? ⟨A, o + 1, none⟩ = some (.int .u64 (n : Int))) (hn : n < 18446744073709551616) :
    Calls Tryz.prog 203 #[p0 C, p0 X] w fun e w' => e = .returned (.bool (decide (0 ≤ c ∧ c ≤ 7) && Wr.canonB c n)) ∧ Below w.heap.size w w' := by
  have c0 := h.c0
  have cX := h.a.c
  have HW := hide (whole1_any h.c ha)
  have HM := hide (mayBits_any c n hn)
  unfold p0 at *
  go_enter Tryz.func203, Tryz.ntmps203
  go_wp2_with fail
  refine HW.out.mono ?_
  rintro e w1 ⟨rfl, nd, rfl⟩
  have hda : ∀ x : Addr, (w.drewN nd).cell? x = w.cell? x := fun _ => rfl
  by_cases h1 : 0 ≤ c ∧ c ≤ 7
  · have hd : decide (0 ≤ c ∧ c ≤ 7) = true := decide_eq_true h1
    rw [hd]
    go_wp2_with fail
    refine (HM.out _).mono ?_
    rintro e w2 ⟨rfl, hb2⟩
    go_wp2_with fail
    go_ret
    exact ⟨by simp [h1], ⟨hb2.os, hb2.tape, hb2.output, hb2.size, hb2.block⟩⟩
  · have hd : decide (0 ≤ c ∧ c ≤ 7) = false := decide_eq_false h1
    rw [hd]
    go_wp2_with fail
    go_ret
    exact ⟨by simp; intro u v; exact absurd ⟨u, v⟩ h1, ⟨rfl, rfl, rfl, Nat.le_refl _, fun _ _ => rfl⟩⟩
set_option maxHeartbeats 400000 in
theorem res2_any {w : World} {X Y C A o : Nat} {c : Int} {n : Nat} (h : R3 w X Y C A o) (ha : w.cell? ⟨A, o, none⟩ = some (.int .i64 c)) (hb : w.cell? ⟨A, o + 1, none⟩ = some (.int .u64 (n : Int))) (hz : ∀ k, w.frozen? ⟨A, k, none⟩ = false) :
    Calls Tryz.prog 205 #[p0 X] w fun e w' => e = .returned (.tuple #[]) ∧ w' = (w.setCell ⟨A, o, none⟩ (.int .i64 0)).setCell ⟨A, o + 1, none⟩ (.int .u64 0) := by
  have cX := h.a.c
  unfold p0 at *
  go_enter Tryz.func205, Tryz.ntmps205
  go_wp2_with fail
  go_end0
  exact ⟨rfl, rfl⟩
theorem bits_add {a b : ByteArray} (h : a.size + b.size ≤ 9223372036854775807) (w1 : World) : (Op.stringOp .add a b).run Tryz.prog w1 = .ok (.string (a ++ b)) w1 := by
  exact run_string_add_sum w1 _ _ h
theorem W3.below {w w' : World} {X : Nat} {a : Addr} {lo hi : Int} (h : W3 w X a lo hi) (hb : Below w.heap.size w w') : W3 w' X a lo hi :=
  ⟨(hb.block _ (lt_of_block h.a)).trans h.a, (hb.block _ (lt_of_block h.l)).trans h.l, (hb.block _ (lt_of_block h.h)).trans h.h⟩
theorem W3.drew {w : World} {X : Nat} {a : Addr} {lo hi : Int} (h : W3 w X a lo hi) (n : Nat) : W3 (w.drewN n) X a lo hi := ⟨h.a, h.l, h.h⟩
theorem below_dr {k : Nat} {w w' : World} {n : Nat} (h : Below k (w.drewN n) w') : Below k w w' := ⟨h.os, h.tape, h.output, h.size, h.block⟩
set_option maxHeartbeats 400000 in
theorem res3_any {w : World} {X Y C A o : Nat} {c n : Nat} (h : R3 w X Y C A o) (ha : w.cell? ⟨A, o, none⟩ = some (.int .i64 (c : Int))) (hb : w.cell? ⟨A, o + 1, none⟩ = some (.int .u64 (n : Int))) (hc : c < 9223372036854775808) (hn : n < 18446744073709551616) :
    Calls Tryz.prog 206 #[p0 C, p0 X] w fun e w' => e = .returned (.string ((⟨(Pk.enc c).toArray⟩ : ByteArray) ++ ⟨(Pk.big8 n).toArray⟩)) ∧ Below w.heap.size w w' := by
  have c2 := h.c2
  have cX := h.a.c
  have lA := World.block_lt_of_cell? _ _ ha
  have lC := World.block_lt_of_cell? _ _ c2
  have lX := World.block_lt_of_cell? _ _ cX
  have hadd := bits_add (a := ⟨(Pk.enc c).toArray⟩) (b := ⟨(Pk.big8 n).toArray⟩) (by have := Pk.enc_ten (n := c) (by omega); show (Pk.enc c).toArray.size + (Pk.big8 n).toArray.size ≤ _; rw [show (Pk.big8 n).toArray.size = 8 from rfl]; simp; omega)
  unfold p0 at *
  go_enter Tryz.func206, Tryz.ntmps206
  go_wp2_with fail
  go_region_held3 (fun w' => w'.cell? ⟨C, 2, none⟩ = some (.func (.func 201) #[] #[.pointer (some ⟨Y, 0, none⟩)]) ∧ w'.cell? ⟨X, 0, none⟩ = some (.pointer (some ⟨A, o, none⟩)) ∧ w'.cell? ⟨A, o + 1, none⟩ = some (.int .u64 (n : Int))) (go_keep) (first
    | (go_at_call 201; first | (refine (whole3_any (h.c.below hb1) ((hb1.cell (p := ⟨A, o, none⟩) lA).trans ha) hc).mono ?_; rintro e w2 ⟨rfl, hb2⟩; have hb2 := hb1.trans (hb2.mono hb1.size); have kC := (hb2.cell (p := ⟨C, 2, none⟩) lC).trans c2; have kX := (hb2.cell (p := ⟨X, 0, none⟩) lX).trans cX; have kA := (hb2.cell (p := ⟨A, o + 1, none⟩) lA).trans hb) | (refine (whole3_any (h.c.drew _) ha hc).mono ?_; rintro e w1 ⟨rfl, hb1⟩; have hb1 := below_dr hb1; have kC := (hb1.cell (p := ⟨C, 2, none⟩) lC).trans c2; have kX := (hb1.cell (p := ⟨X, 0, none⟩) lX).trans cX; have kA := (hb1.cell (p := ⟨A, o + 1, none⟩) lA).trans hb))
    | (go_at_call 207; first | (refine (pbits_any n hn w1).mono ?_; rintro e w2 ⟨rfl, hb2⟩; have hb2 := hb1.trans (hb2.mono hb1.size); have kC := (hb2.cell (p := ⟨C, 2, none⟩) lC).trans c2; have kX := (hb2.cell (p := ⟨X, 0, none⟩) lX).trans cX; have kA := (hb2.cell (p := ⟨A, o + 1, none⟩) lA).trans hb) | (refine (pbits_any n hn (w.drewN _)).mono ?_; rintro e w1 ⟨rfl, hb1⟩; have hb1 := below_dr hb1; have kC := (hb1.cell (p := ⟨C, 2, none⟩) lC).trans c2; have kX := (hb1.cell (p := ⟨X, 0, none⟩) lX).trans cX; have kA := (hb1.cell (p := ⟨A, o + 1, none⟩) lA).trans hb)))
  all_goals
    go_wp2
    go_ret
    exact ⟨rfl, hb2⟩
end Go.Proofs.YtkfnedhllfdghaaGreatDoor.W
end

section
namespace Go.Proofs.YtkfnedhllfdghaaGreatDoor.W
set_option maxRecDepth 20000
open Go.RowKit
open Wr (Ms V L)

theorem cell_next {w : World} {A o : Nat} {x v : Value} (h : w.cell? ⟨A, o + 1, none⟩ = some v) : (w.setCell ⟨A, o, none⟩ x).cell? ⟨A, o + 1, none⟩ = some v := by
  exact (World.cell?_setCell_other (w := w) (a := ⟨A, o, none⟩) (b := ⟨A, o + 1, none⟩) (v := x) (by simp)).trans h
theorem frozen_set {w : World} {A o : Nat} {x : Value} (h : ∀ k, w.frozen? ⟨A, k, none⟩ = false) : ∀ k, (w.setCell ⟨A, o, none⟩ x).frozen? ⟨A, k, none⟩ = false := by
  intro k
  simpa using h k
set_option maxHeartbeats 400000 in
theorem res4_any {w : World} {X Y C A o B p f : Nat} {b : ByteArray} {u v : Value} (h : R3 w X Y C A o) (ha : w.cell? ⟨A, o, none⟩ = some u) (hb : w.cell? ⟨A, o + 1, none⟩ = some v) (hz : ∀ k, w.frozen? ⟨A, k, none⟩ = false)
    (hR : Rd w B b p f) (hp : p ≤ b.size) (hbs : b.size ≤ 140737488351232) (hAB : A ≠ B) (hA : A < X ∧ A < Y ∧ A < C) (hB : B < X ∧ B < Y ∧ B < C) :
    Calls Tryz.prog 208 #[.pointer (some ⟨B, 0, none⟩), p0 C, p0 X] w fun e w' => e = .returned (.tuple #[]) ∧ ∃ w1 w2, w.grownBy w1 (some B) ∧ (w1.setCell ⟨A, o, none⟩ (.int .i64 ((Wr.rdN b 7 p f).1 : Int))).grownBy w2 (some B) ∧
      Rd w2 B b ((Wr.rdB b (Wr.rdN b 7 p f).2.1 (Wr.rdN b 7 p f).2.2).2.1 : Int) ((Wr.rdB b (Wr.rdN b 7 p f).2.1 (Wr.rdN b 7 p f).2.2).2.2 : Int) ∧ w' = w2.setCell ⟨A, o + 1, none⟩ (.int .u64 ((Wr.rdB b (Wr.rdN b 7 p f).2.1 (Wr.rdN b 7 p f).2.2).1 : Int)) := by
  have c3 := h.c3
  have cX := h.a.c
  have lA := World.block_lt_of_cell? _ _ ha
  have HW := hide (whole4_any (most := 7) h.c ha (hz _) hR hp hbs (by decide) hAB hA.2.1 hB.2.1)
  have hp1 := (Wr.rdN_le b 7 p f hp).2
  unfold p0 at *
  go_enter Tryz.func208, Tryz.ntmps208
  go_wp2_with fail
  refine HW.out.mono ?_
  rintro e w0 ⟨rfl, w1, hg1, hR1, rfl⟩
  generalize hx : Value.int .i64 ((Wr.rdN b 7 p f).1 : Int) = x at *
  generalize hP : (Wr.rdN b 7 p f).2.1 = p1 at *
  generalize hF : (Wr.rdN b 7 p f).2.2 = f1 at *
  have hR2 := hR1.other ⟨A, o, none⟩ x (fun e => hAB e.symm)
  have kX := cell_other (a := ⟨A, o, none⟩) (u := x) (hg1.cell cX (show some X ≠ some B by simp; omega)) (show X ≠ A by omega)
  have kA1 := hg1.cell hb (show some A ≠ some B by simpa using hAB)
  have kA := cell_next (x := x) kA1
  have kz := frozen_set (x := x) (o := o) fun k => grown_frozen hg1 (hz k) lA (show some A ≠ some B by simpa using hAB)
  have lA2 : A < (w1.setCell ⟨A, o, none⟩ x).heap.size := World.block_lt_of_cell? _ _ kA
  have hsz : ∀ u, w1.grownBy (w1.setCell ⟨A, o, none⟩ u) (some A) := fun u => grown_set _ _ _ _
  have HX := hide (And.intro hx (And.intro hP hF))
  clear hx hP hF
  generalize hW : w1.setCell ⟨A, o, none⟩ x = W at *
  have HY := hide hW
  clear hW
  go_wp2_with fail
  go_region_held3 (fun w' => w'.cell? ⟨X, 0, none⟩ = some (.pointer (some ⟨A, o, none⟩))) (first | go_keep | exact s0 _) (first
    | (go_at_call 209; refine (rbitsP (hR2.drew _) hp1 hbs).mono ?_; rintro e w2 ⟨rfl, hR3, hg2⟩; have k0 := hg2.cell kX (show some X ≠ some B by simp; omega); have ka := hg2.cell kA (show some A ≠ some B by simpa using hAB); have kz2 := fun k => grown_frozen hg2 (kz k) lA2 (show some A ≠ some B by simpa using hAB); have s0 := fun u => cell_other (a := ⟨A, o + 1, none⟩) k0 (u := u) (show X ≠ A by omega)))
  go_wp2
  go_end0
  obtain ⟨hx, hP, hF⟩ := HX.out
  have hW := HY.out
  subst hx hP hF
  exact ⟨rfl, w1, w2, hg1, by rw [hW]; exact grown_trans (grown_drew W 1 _) hg2, hR3, rfl⟩
end Go.Proofs.YtkfnedhllfdghaaGreatDoor.W
end

section
namespace Go.Proofs.YtkfnedhllfdghaaGreatDoor.W
set_option maxRecDepth 20000
open Go.RowKit
open Wr (Ms V L)

/-- a message's cells -/
def msgC (m : Ms) : Array Value := #[.int .i64 m.k, .int .i64 m.se, .int .i64 m.nu, .int .i64 m.jo, .int .i64 m.ba, .int .i64 m.ix, .int .i64 m.co, .int .i64 m.rc, .int .u64 (m.rb : Int), .string m.tx, .string m.pr]
def Mg (w : World) (A : Nat) (m : Ms) : Prop := w.heap[A]? = some (.cells (msgC m) 67 (0, 0))
structure Ch (A B : Nat) (w w' : World) : Prop where
  os : w'.os = w.os
  tape : w'.tape = w.tape
  output : w'.output = w.output
  size : w.heap.size ≤ w'.heap.size
  block : ∀ k, k < w.heap.size → k ≠ A → k ≠ B → w'.heap[k]? = w.heap[k]?
theorem Ch.of_below {A B : Nat} {w w' : World} (h : Below w.heap.size w w') : Ch A B w w' := ⟨h.os, h.tape, h.output, h.size, fun k hk _ _ => h.block k hk⟩
theorem Ch.trans {A B : Nat} {a b c : World} (h : Ch A B a b) (k : Ch A B b c) : Ch A B a c :=
  ⟨k.os.trans h.os, k.tape.trans h.tape, k.output.trans h.output, Nat.le_trans h.size k.size, fun i hi h1 h2 => (k.block i (Nat.lt_of_lt_of_le hi h.size) h1 h2).trans (h.block i hi h1 h2)⟩
theorem Ch.grown {A B : Nat} {w w' : World} (h : w.grownBy w' (some B)) : Ch A B w w' := ⟨h.os, h.tape, h.output, h.size, fun k hk _ h2 => h.block k hk (by simpa using h2)⟩
theorem Ch.set {A B : Nat} (w : World) (o : Nat) (v : Value) : Ch A B w (w.setCell ⟨A, o, none⟩ v) := ⟨rfl, rfl, rfl, by simp, fun k _ h1 _ => Below.heap_setCell w _ v k h1⟩
theorem Ch.wide {A B : Nat} {w w' : World} (h : Ch A A w w') : Ch A B w w' := ⟨h.os, h.tape, h.output, h.size, fun k hk h1 _ => h.block k hk h1 h1⟩

def off : L → Nat
  | .S => 1 | .N => 2 | .J => 3 | .B => 4 | .I => 5 | .C => 6 | .R => 7 | .T => 9 | .P => 10
def isW : L → Bool
  | .R => false | .T => false | .P => false | _ => true
theorem Mg.lt {w : World} {A : Nat} {m : Ms} (h : Mg w A m) : A < w.heap.size := lt_of_block h
theorem Mg.z {w : World} {A : Nat} {m : Ms} (h : Mg w A m) (k : Nat) : w.frozen? ⟨A, k, none⟩ = false := by unfold Mg at h; simp [World.frozen?, h]
theorem Mg.cw {w : World} {A : Nat} {m : Ms} (h : Mg w A m) {l : L} (hl : isW l = true) : w.cell? ⟨A, off l, none⟩ = some (.int .i64 (Wr.get l m).i) := by
  unfold Mg at h; cases l <;> first | (cases hl; done) | simp [World.cell?, h, msgC, off, Wr.get]
theorem Mg.sw {w : World} {A : Nat} {m : Ms} (h : Mg w A m) {l : L} (hl : isW l = true) (x : Int) : Mg (w.setCell ⟨A, off l, none⟩ (.int .i64 x)) A (Wr.set l ⟨x, 0, Wr.e0⟩ m) := by
  unfold Mg at h ⊢
  rw [cells_set h]
  cases l <;> first | (cases hl; done) | rfl
def isT : L → Bool
  | .T => true | .P => true | _ => false
theorem Mg.ct {w : World} {A : Nat} {m : Ms} (h : Mg w A m) {l : L} (hl : isT l = true) : w.cell? ⟨A, off l, none⟩ = some (.string (Wr.get l m).t) := by
  unfold Mg at h; cases l <;> first | (cases hl; done) | simp [World.cell?, h, msgC, off, Wr.get]
theorem Mg.st {w : World} {A : Nat} {m : Ms} (h : Mg w A m) {l : L} (hl : isT l = true) (x : ByteArray) : Mg (w.setCell ⟨A, off l, none⟩ (.string x)) A (Wr.set l ⟨0, 0, x⟩ m) := by
  unfold Mg at h ⊢
  rw [cells_set h]
  cases l <;> first | (cases hl; done) | rfl
theorem Mg.cr {w : World} {A : Nat} {m : Ms} (h : Mg w A m) : w.cell? ⟨A, 7, none⟩ = some (.int .i64 m.rc) ∧ w.cell? ⟨A, 7 + 1, none⟩ = some (.int .u64 (m.rb : Int)) := by
  unfold Mg at h; simp [World.cell?, h, msgC]
theorem Mg.block {w w' : World} {A : Nat} {m : Ms} (h : Mg w A m) (e : w'.heap[A]? = w.heap[A]?) : Mg w' A m := e.trans h

def limP (k : Int) (l : L) : Nat := (Wr.most k l).toNat
structure FdC (A base : Nat) (k : Int) (l : L) (P : World → Prop) (bs : List Nat) (i1 i2 i3 i4 : FuncId) (c1 c2 c3 c4 : Array Value) : Prop where
  may : ∀ w m, P w → Mg w A m → m.k = k → m.rb < 18446744073709551616 → Calls Tryz.prog i1 c1 w fun e w' => e = .returned (.bool (Wr.may k l (Wr.get l m))) ∧ Below w.heap.size w w'
  clr : ∀ w m, P w → Mg w A m → Calls Tryz.prog i2 c2 w fun e w' => e = .returned (.tuple #[]) ∧ Mg w' A (Wr.set l Wr.zV m) ∧ Ch A A w w'
  lay : ∀ w m, P w → Mg w A m → m.k = k → m.rb < 18446744073709551616 → Wr.may k l (Wr.get l m) = true → Calls Tryz.prog i3 c3 w fun e w' => e = .returned (.string ⟨(Wr.lay l (Wr.get l m)).toArray⟩) ∧ Below w.heap.size w w'
  rd : ∀ w m B b p f, P w → Mg w A m → Rd w B b ((p : Nat) : Int) ((f : Nat) : Int) → p ≤ b.size → b.size ≤ 140737488351232 → A ≠ B → B < base → Calls Tryz.prog i4 (#[.pointer (some ⟨B, 0, none⟩)] ++ c4) w fun e w' => e = .returned (.tuple #[]) ∧
    Mg w' A (Wr.set l (Wr.rd b (limP k) l p f).1 m) ∧ Rd w' B b ((Wr.rd b (limP k) l p f).2.1 : Int) ((Wr.rd b (limP k) l p f).2.2 : Int) ∧ Ch A B w w'
  keep : ∀ w w', P w → (∀ j ∈ bs, w'.heap[j]? = w.heap[j]?) → P w'
  low : ∀ j ∈ bs, base ≤ j
  high : ∀ w, P w → ∀ j ∈ bs, j < w.heap.size
  typ : ∀ w, P w → ∀ j ∈ bs, ∀ o, w.heap[j]? = some o → ∀ c fz, o ≠ .cells c 5 fz
  e1 : ∀ w, (callFunc i1 c1).run Tryz.prog w = .ok (.enter i1 c1) w
  e2 : ∀ w, (callFunc i2 c2).run Tryz.prog w = .ok (.enter i2 c2) w
  e3 : ∀ w, (callFunc i3 c3).run Tryz.prog w = .ok (.enter i3 c3) w
  e4 : ∀ w v, (callFunc i4 (#[v] ++ c4)).run Tryz.prog w = .ok (.enter i4 (#[v] ++ c4)) w

theorem most_hi (k : Int) (l : L) : 0 ≤ Wr.most k l ∧ Wr.most k l ≤ 1099511627776 := by cases l <;> simp only [Wr.most] <;> (try split) <;> omega
theorem least_lo (l : L) : 0 ≤ Wr.least l := by cases l <;> decide
theorem rd_w (b : ByteArray) (lim : L → Nat) {l : L} (hl : isW l = true) (p f : Nat) : Wr.rd b lim l p f = (⟨((Wr.rdN b (lim l) p f).1 : Int), 0, Wr.e0⟩, (Wr.rdN b (lim l) p f).2) := by cases l <;> first | (cases hl; done) | rfl
theorem rd_t (b : ByteArray) (lim : L → Nat) {l : L} (hl : isT l = true) (p f : Nat) : Wr.rd b lim l p f = (⟨0, 0, (Wr.rdT b (lim l) p f).1⟩, (Wr.rdT b (lim l) p f).2) := by cases l <;> first | (cases hl; done) | rfl
theorem Rd.block {w w' : World} {B : Nat} {b : ByteArray} {p f : Int} (h : Rd w B b p f) (e : w'.heap[B]? = w.heap[B]?) : Rd w' B b p f := e.trans h
theorem may_w {k : Int} {l : L} (hl : isW l = true) (v : V) : Wr.may k l v = decide (Wr.least l ≤ v.i ∧ v.i ≤ Wr.most k l) := by
  unfold Wr.may
  rw [decide_eq_true (show l ≠ .R by rintro rfl; cases hl), Bool.true_or, Bool.and_true]
  cases l <;> first | (cases hl; done) | rfl
theorem may_t {k : Int} {l : L} (hl : isT l = true) (v : V) : Wr.may k l v = decide (Wr.least l ≤ (v.t.size : Int) ∧ (v.t.size : Int) ≤ Wr.most k l) := by
  unfold Wr.may
  rw [decide_eq_true (show l ≠ .R by rintro rfl; cases hl), Bool.true_or, Bool.and_true]
  cases l <;> first | (cases hl; done) | rfl
theorem lay_w {l : L} (hl : isW l = true) (v : V) : Wr.lay l v = Pk.enc v.i.toNat := by cases l <;> first | (cases hl; done) | rfl
theorem lay_t {l : L} (hl : isT l = true) (v : V) : Wr.lay l v = Pk.enc v.t.size ++ v.t.data.toList := by cases l <;> first | (cases hl; done) | rfl
theorem ba_append (a : List UInt8) (x : ByteArray) : (⟨a.toArray⟩ : ByteArray) ++ x = ⟨(a ++ x.data.toList).toArray⟩ := by
  apply ByteArray.ext; simp
theorem blk {bs : List Nat} {X : Nat} {w w' : World} {o : Obj} (hk : ∀ j ∈ bs, w'.heap[j]? = w.heap[j]?) (hX : X ∈ bs) (h : w.heap[X]? = some o) : w'.heap[X]? = some o := (hk X hX).trans h

set_option maxRecDepth 20000 in
theorem fd_whole {A base X : Nat} {k : Int} {l : L} (hl : isW l = true) (hA : A < base) (hX : base ≤ X) :
    FdC A base k l (fun w => W3 w X ⟨A, off l, none⟩ (Wr.least l) (Wr.most k l)) [X, X + 1, X + 2] 199 200 201 202 #[p0 (X + 1), p0 X, p0 (X + 2)] #[p0 X] #[p0 X] #[p0 (X + 2), p0 X] where
  may := by
    intro w m h hm _ _
    refine (whole1_any h (hm.cw hl)).mono ?_
    rintro e w' ⟨rfl, n, rfl⟩
    exact ⟨by rw [may_w hl], ⟨rfl, rfl, rfl, Nat.le_refl _, fun _ _ => rfl⟩⟩
  clr := by
    intro w m h hm
    refine (whole2_any h (hm.cw hl) (hm.z _)).mono ?_
    rintro e w' ⟨rfl, rfl⟩
    exact ⟨rfl, hm.sw hl 0, Ch.set _ _ _⟩
  lay := by
    intro w m h hm _ _ hy
    rw [may_w hl, decide_eq_true_eq] at hy
    have h0 := least_lo l
    have h1 := most_hi k l
    have e : (Wr.get l m).i = ((Wr.get l m).i.toNat : Int) := (Int.toNat_of_nonneg (by omega)).symm
    refine (whole3_any (x := (Wr.get l m).i.toNat) h (by rw [← e]; exact hm.cw hl) (by omega)).mono ?_
    rintro e w' ⟨rfl, hb⟩
    exact ⟨by rw [lay_w hl], hb⟩
  rd := by
    intro w m B b p f h hm hR hp hb hAB hB
    have h1 := most_hi k l
    have e : Wr.most k l = (limP k l : Int) := (Int.toNat_of_nonneg h1.1).symm
    rw [e] at h
    refine (whole4_any (most := limP k l) h (hm.cw hl) (hm.z _) hR hp hb (by omega) hAB (by show A < X; omega) (by omega)).mono ?_
    rintro e w' ⟨rfl, w1, hg, hR1, rfl⟩
    rw [rd_w b _ hl]
    refine ⟨rfl, (hm.block (hg.block A hm.lt (by simpa using hAB))).sw hl _, Rd.block hR1 (Below.heap_setCell _ _ _ _ (Ne.symm hAB)), (Ch.grown hg).trans (Ch.set _ _ _)⟩
  keep := by
    intro w w' h hk
    exact ⟨blk hk (by simp) h.a, blk hk (by simp) h.l, blk hk (by simp) h.h⟩
  low := by intro j hj; simp at hj; omega
  high := by
    intro w h j hj
    simp at hj
    rcases hj with rfl | rfl | rfl
    · exact lt_of_block h.a
    · exact lt_of_block h.l
    · exact lt_of_block h.h
  typ := by
    intro w h j hj o ho c fz e
    subst e
    simp at hj
    rcases hj with rfl | rfl | rfl
    · have := h.a.symm.trans ho; simp at this
    · have := h.l.symm.trans ho; simp at this
    · have := h.h.symm.trans ho; simp at this
  e1 := fun _ => rfl
  e2 := fun _ => rfl
  e3 := fun _ => rfl
  e4 := fun _ _ => rfl

set_option maxRecDepth 20000 in
theorem fd_text {A base X : Nat} {k : Int} {l : L} (hl : isT l = true) (hA : A < base) (hX : base ≤ X) :
    FdC A base k l (fun w => T3 w X ⟨A, off l, none⟩ (Wr.least l) (Wr.most k l)) [X, X + 1, X + 2] 210 211 212 214 #[p0 (X + 1), p0 X, p0 (X + 2)] #[p0 X] #[p0 X] #[p0 (X + 2), p0 X] where
  may := by
    intro w m h hm _ _
    refine (txt1_any h (hm.ct hl)).mono ?_
    rintro e w' ⟨rfl, n, rfl⟩
    exact ⟨by rw [may_t hl], ⟨rfl, rfl, rfl, Nat.le_refl _, fun _ _ => rfl⟩⟩
  clr := by
    intro w m h hm
    refine (txt2_any h (hm.ct hl) (hm.z _)).mono ?_
    rintro e w' ⟨rfl, rfl⟩
    exact ⟨rfl, hm.st hl _, Ch.set _ _ _⟩
  lay := by
    intro w m h hm _ _ hy
    rw [may_t hl, decide_eq_true_eq] at hy
    have h1 := most_hi k l
    refine (txt3_any h (hm.ct hl) (by omega)).mono ?_
    rintro e w' ⟨rfl, hb⟩
    exact ⟨by rw [lay_t hl, ba_append], hb⟩
  rd := by
    intro w m B b p f h hm hR hp hb hAB hB
    have h1 := most_hi k l
    have e : Wr.most k l = (limP k l : Int) := (Int.toNat_of_nonneg h1.1).symm
    rw [e] at h
    refine (txt4_any (most := limP k l) h (hm.ct hl) (hm.z _) hR hp hb (by omega) hAB (by show A < X; omega) (by omega)).mono ?_
    rintro e w' ⟨rfl, w1, hg, hR1, rfl⟩
    rw [rd_t b _ hl]
    refine ⟨rfl, (hm.block (hg.block A hm.lt (by simpa using hAB))).st hl _, Rd.block hR1 (Below.heap_setCell _ _ _ _ (Ne.symm hAB)), (Ch.grown hg).trans (Ch.set _ _ _)⟩
  keep := by
    intro w w' h hk
    exact ⟨blk hk (by simp) h.a, blk hk (by simp) h.l, blk hk (by simp) h.h⟩
  low := by intro j hj; simp at hj; omega
  high := by
    intro w h j hj
    simp at hj
    rcases hj with rfl | rfl | rfl
    · exact lt_of_block h.a
    · exact lt_of_block h.l
    · exact lt_of_block h.h
  typ := by
    intro w h j hj o ho c fz e
    subst e
    simp at hj
    rcases hj with rfl | rfl | rfl
    · have := h.a.symm.trans ho; simp at this
    · have := h.l.symm.trans ho; simp at this
    · have := h.h.symm.trans ho; simp at this
  e1 := fun _ => rfl
  e2 := fun _ => rfl
  e3 := fun _ => rfl
  e4 := fun _ _ => rfl

set_option maxRecDepth 20000 in
theorem fd_res {A base X Y C : Nat} {k : Int} (hA : A < base) (hX : base ≤ X) (hY : base ≤ Y) (hC : base ≤ C) :
    FdC A base k .R (fun w => R3 w X Y C A 7) [X, Y, Y + 1, Y + 2, C] 203 205 206 208 #[p0 C, p0 X] #[p0 X] #[p0 C, p0 X] #[p0 C, p0 X] where
  may := by
    intro w m h hm _ hn
    obtain ⟨h1, h2⟩ := hm.cr
    refine (res1_any h h1 h2 hn).mono ?_
    rintro e w' ⟨rfl, hb⟩
    exact ⟨rfl, hb⟩
  clr := by
    intro w m h hm
    obtain ⟨h1, h2⟩ := hm.cr
    refine (res2_any h h1 h2 hm.z).mono ?_
    rintro e w' ⟨rfl, rfl⟩
    refine ⟨rfl, ?_, (Ch.set _ _ _).trans (Ch.set _ _ _)⟩
    unfold Mg at hm ⊢
    rw [cells_set (cells_set hm 7 _) (7 + 1) _]; rfl
  lay := by
    intro w m h hm _ hn hy
    obtain ⟨h1, h2⟩ := hm.cr
    have hy : (decide (0 ≤ m.rc ∧ m.rc ≤ 7) && Wr.canonB m.rc m.rb) = true := hy
    rw [Bool.and_eq_true, decide_eq_true_eq] at hy
    have e : m.rc = (m.rc.toNat : Int) := (Int.toNat_of_nonneg (by omega)).symm
    refine (res3_any (c := m.rc.toNat) h (by rw [← e]; exact h1) h2 (by omega) hn).mono ?_
    rintro e w' ⟨rfl, hb⟩
    exact ⟨by rw [ba_append]; rfl, hb⟩
  rd := by
    intro w m B b p f h hm hR hp hb hAB hB
    obtain ⟨h1, h2⟩ := hm.cr
    refine (res4_any h h1 h2 hm.z hR hp hb hAB (by omega) (by omega)).mono ?_
    rintro e w' ⟨rfl, w1, w2, hg1, hg2, hR2, rfl⟩
    refine ⟨rfl, ?_, Rd.block hR2 (Below.heap_setCell _ _ _ _ (Ne.symm hAB)), ((Ch.grown hg1).trans (Ch.set _ _ _)).trans ((Ch.grown hg2).trans (Ch.set _ _ _))⟩
    have m1 := cells_set (hm.block (hg1.block A hm.lt (by simpa using hAB))) 7 (.int .i64 ((Wr.rdN b 7 p f).1 : Int))
    have m2 := cells_set ((hg2.block A (lt_of_block m1) (by simpa using hAB)).trans m1) (7 + 1) (.int .u64 ((Wr.rdB b (Wr.rdN b 7 p f).2.1 (Wr.rdN b 7 p f).2.2).1 : Int))
    exact m2
  keep := by
    intro w w' h hk
    exact ⟨blk hk (by simp) h.a, ⟨blk hk (by simp) h.c.a, blk hk (by simp) h.c.l, blk hk (by simp) h.c.h⟩, blk hk (by simp) h.f⟩
  low := by intro j hj; simp at hj; omega
  high := by
    intro w h j hj
    simp at hj
    rcases hj with rfl | rfl | rfl | rfl | rfl
    · exact lt_of_block h.a
    · exact lt_of_block h.c.a
    · exact lt_of_block h.c.l
    · exact lt_of_block h.c.h
    · exact lt_of_block h.f
  typ := by
    intro w h j hj o ho c fz e
    subst e
    simp at hj
    rcases hj with rfl | rfl | rfl | rfl | rfl
    · have := h.a.symm.trans ho; simp at this
    · have := h.c.a.symm.trans ho; simp at this
    · have := h.c.l.symm.trans ho; simp at this
    · have := h.c.h.symm.trans ho; simp at this
    · have := h.f.symm.trans ho; simp at this
  e1 := fun _ => rfl
  e2 := fun _ => rfl
  e3 := fun _ => rfl
  e4 := fun _ _ => rfl
theorem FdC.mono {A base base' : Nat} {k : Int} {l : L} {P : World → Prop} {bs : List Nat} {i1 i2 i3 i4 : FuncId} {c1 c2 c3 c4 : Array Value} (h : FdC A base' k l P bs i1 i2 i3 i4 c1 c2 c3 c4) (hb : base ≤ base') : FdC A base k l P bs i1 i2 i3 i4 c1 c2 c3 c4 :=
  ⟨h.may, h.clr, h.lay, fun w m B b p f h1 h2 h3 h4 h5 h6 h7 => h.rd w m B b p f h1 h2 h3 h4 h5 h6 (Nat.lt_of_lt_of_le h7 hb), h.keep, fun j hj => Nat.le_trans hb (h.low j hj), h.high, h.typ, h.e1, h.e2, h.e3, h.e4⟩
end Go.Proofs.YtkfnedhllfdghaaGreatDoor.W
end

section
namespace Go.Proofs.YtkfnedhllfdghaaGreatDoor.W
set_option maxRecDepth 20000
open Go.RowKit
open Wr (Ms V L)

def chr : L → Int
  | .S => 83 | .N => 78 | .J => 74 | .B => 66 | .I => 73 | .C => 67 | .R => 82 | .T => 84 | .P => 80
/-- four closures of a field, in a world -/
def Fd (A base : Nat) (k : Int) (l : L) (bs : List Nat) (w : World) (v0 v1 v2 v3 : Value) : Prop :=
  ∃ P i1 i2 i3 i4 c1 c2 c3 c4, v0 = .func (.func i1) #[] c1 ∧ v1 = .func (.func i2) #[] c2 ∧ v2 = .func (.func i3) #[] c3 ∧ v3 = .func (.func i4) #[] c4 ∧ P w ∧ FdC A base k l P bs i1 i2 i3 i4 c1 c2 c3 c4
theorem Fd.high {A base : Nat} {k : Int} {l : L} {bs : List Nat} {w : World} {v0 v1 v2 v3 : Value} (h : Fd A base k l bs w v0 v1 v2 v3) : ∀ j ∈ bs, base ≤ j ∧ j < w.heap.size := by
  obtain ⟨P, i1, i2, i3, i4, c1, c2, c3, c4, e0, e1, e2, e3, hP, hF⟩ := h
  exact fun j hj => ⟨hF.low j hj, hF.high _ hP j hj⟩
theorem Fd.mono {A base base' : Nat} {k : Int} {l : L} {bs : List Nat} {w : World} {v0 v1 v2 v3 : Value} (h : Fd A base' k l bs w v0 v1 v2 v3) (hb : base ≤ base') : Fd A base k l bs w v0 v1 v2 v3 := by
  obtain ⟨P, i1, i2, i3, i4, c1, c2, c3, c4, e0, e1, e2, e3, hP, hF⟩ := h
  exact ⟨P, i1, i2, i3, i4, c1, c2, c3, c4, e0, e1, e2, e3, hP, hF.mono hb⟩
theorem Fd.keep {A base : Nat} {k : Int} {l : L} {bs : List Nat} {w w' : World} {v0 v1 v2 v3 : Value} (h : Fd A base k l bs w v0 v1 v2 v3) (hk : ∀ j ∈ bs, w'.heap[j]? = w.heap[j]?) : Fd A base k l bs w' v0 v1 v2 v3 := by
  obtain ⟨P, i1, i2, i3, i4, c1, c2, c3, c4, e0, e1, e2, e3, hP, hF⟩ := h
  exact ⟨P, i1, i2, i3, i4, c1, c2, c3, c4, e0, e1, e2, e3, hF.keep _ _ hP hk, hF⟩
def FOPost (A : Nat) (k : Int) (l : L) (w : World) (e : Ending) (w' : World) : Prop :=
  ∃ v0 v1 v2 v3 bs, e = .returned (.agg #[v0, v1, v2, v3]) ∧ Below w.heap.size w w' ∧ Fd A (w.heap.size + 1) k l bs w' v0 v1 v2 v3
set_option maxHeartbeats 400000 in
theorem lastIndex_any (k : Int) (w : World) : Calls Tryz.prog 178 #[.int .i64 k] w fun e w' => e = .returned (.int .i64 (Wr.most k .I)) ∧ w' = w := by
  by_cases h : k = 6
  · subst h
    go_enter Tryz.func178, Tryz.ntmps178
    go_wp2
    go_ret
    exact ⟨rfl, rfl⟩
  · have hm : Wr.most k .I = 31 := if_neg h
    rw [hm]
    go_enter Tryz.func178, Tryz.ntmps178
    go_wp2
    go_ret
    exact ⟨rfl, rfl⟩
set_option maxHeartbeats 400000 in
theorem mostCount_any (k : Int) (w : World) : Calls Tryz.prog 179 #[.int .i64 k] w fun e w' => e = .returned (.int .i64 (Wr.most k .C)) ∧ w' = w := by
  by_cases h : k = 15
  · subst h
    go_enter Tryz.func179, Tryz.ntmps179
    go_wp2
    go_ret
    exact ⟨rfl, rfl⟩
  · have hm : Wr.most k .C = 32 := if_neg h
    rw [hm]
    go_enter Tryz.func179, Tryz.ntmps179
    go_wp2
    go_ret
    exact ⟨rfl, rfl⟩
theorem Mg.c0 {w : World} {A : Nat} {m : Ms} (h : Mg w A m) : w.cell? ⟨A, 0, none⟩ = some (.int .i64 m.k) := by unfold Mg at h; simp [World.cell?, h, msgC]
def nil4 : Obj := .cells #[.nilFunc, .nilFunc, .nilFunc, .nilFunc] 179
/-- the result's cell, behind the call that made the field -/
structure Fo (w w1 : World) : Prop where
  q0 : w1.cell? ⟨w.heap.size, 0, none⟩ = some .nilFunc
  q1 : ∀ v0, (w1.setCell ⟨w.heap.size, 0, none⟩ v0).cell? ⟨w.heap.size, 1, none⟩ = some .nilFunc
  q2 : ∀ v0 v1, ((w1.setCell ⟨w.heap.size, 0, none⟩ v0).setCell ⟨w.heap.size, 1, none⟩ v1).cell? ⟨w.heap.size, 2, none⟩ = some .nilFunc
  q3 : ∀ v0 v1 v2, (((w1.setCell ⟨w.heap.size, 0, none⟩ v0).setCell ⟨w.heap.size, 1, none⟩ v1).setCell ⟨w.heap.size, 2, none⟩ v2).cell? ⟨w.heap.size, 3, none⟩ = some .nilFunc
  z0 : ∀ k, w1.frozen? ⟨w.heap.size, k, none⟩ = false
  z1 : ∀ k v0, (w1.setCell ⟨w.heap.size, 0, none⟩ v0).frozen? ⟨w.heap.size, k, none⟩ = false
  z2 : ∀ k v0 v1, ((w1.setCell ⟨w.heap.size, 0, none⟩ v0).setCell ⟨w.heap.size, 1, none⟩ v1).frozen? ⟨w.heap.size, k, none⟩ = false
  z3 : ∀ k v0 v1 v2, (((w1.setCell ⟨w.heap.size, 0, none⟩ v0).setCell ⟨w.heap.size, 1, none⟩ v1).setCell ⟨w.heap.size, 2, none⟩ v2).frozen? ⟨w.heap.size, k, none⟩ = false
  r : ∀ v0 v1 v2 v3, ((((w1.setCell ⟨w.heap.size, 0, none⟩ v0).setCell ⟨w.heap.size, 1, none⟩ v1).setCell ⟨w.heap.size, 2, none⟩ v2).setCell ⟨w.heap.size, 3, none⟩ v3).heap[w.heap.size]? = some (.cells #[v0, v1, v2, v3] 179 (0, 0))
  b : ∀ v0 v1 v2 v3, Below w.heap.size w ((((w1.setCell ⟨w.heap.size, 0, none⟩ v0).setCell ⟨w.heap.size, 1, none⟩ v1).setCell ⟨w.heap.size, 2, none⟩ v2).setCell ⟨w.heap.size, 3, none⟩ v3)
  k : ∀ v0 v1 v2 v3 j, j ≠ w.heap.size → ((((w1.setCell ⟨w.heap.size, 0, none⟩ v0).setCell ⟨w.heap.size, 1, none⟩ v1).setCell ⟨w.heap.size, 2, none⟩ v2).setCell ⟨w.heap.size, 3, none⟩ v3).heap[j]? = w1.heap[j]?
theorem fo_of {w w1 : World} (hb : Below (w.alloc nil4).heap.size (w.alloc nil4) w1) : Fo w w1 := by
  have hR : w1.heap[w.heap.size]? = some (.cells #[.nilFunc, .nilFunc, .nilFunc, .nilFunc] 179 (0, 0)) := (hb.block _ (by simp)).trans (heap_alloc_new w _)
  have hc1 := fun v0 => cells_set hR 0 v0
  have hc2 := fun v0 v1 => cells_set (hc1 v0) 1 v1
  have hc3 := fun v0 v1 v2 => cells_set (hc2 v0 v1) 2 v2
  have hc4 := fun v0 v1 v2 v3 => cells_set (hc3 v0 v1 v2) 3 v3
  have fz : ∀ (w2 : World) (cs : Array Value) (k : Nat), w2.heap[w.heap.size]? = some (.cells cs 179 (0, 0)) → w2.frozen? ⟨w.heap.size, k, none⟩ = false := fun w2 cs k h => by simp [World.frozen?, h]
  have hk : ∀ v0 v1 v2 v3 j, j ≠ w.heap.size → ((((w1.setCell ⟨w.heap.size, 0, none⟩ v0).setCell ⟨w.heap.size, 1, none⟩ v1).setCell ⟨w.heap.size, 2, none⟩ v2).setCell ⟨w.heap.size, 3, none⟩ v3).heap[j]? = w1.heap[j]? := fun v0 v1 v2 v3 j hj => by
    rw [Below.heap_setCell _ _ _ _ hj, Below.heap_setCell _ _ _ _ hj, Below.heap_setCell _ _ _ _ hj, Below.heap_setCell _ _ _ _ hj]
  refine ⟨by simp [World.cell?, hR], fun v0 => by simp [World.cell?, hc1 v0], fun v0 v1 => by simp [World.cell?, hc2 v0 v1], fun v0 v1 v2 => by simp [World.cell?, hc3 v0 v1 v2],
    fun k => fz _ _ k hR, fun k v0 => fz _ _ k (hc1 v0), fun k v0 v1 => fz _ _ k (hc2 v0 v1), fun k v0 v1 v2 => fz _ _ k (hc3 v0 v1 v2), fun v0 v1 v2 v3 => hc4 v0 v1 v2 v3, ?_, hk⟩
  intro v0 v1 v2 v3
  have hs := hb.size
  simp at hs
  exact ⟨hb.os, hb.tape, hb.output, by simp; omega, fun j hj => (hk v0 v1 v2 v3 j (by omega)).trans ((hb.block j (by simp; omega)).trans (Below.heap_alloc w _ j hj))⟩
set_option maxHeartbeats 800000 in
theorem fieldOf_S {w : World} {A : Nat} {m : Ms} (h : Mg w A m) :
    Calls Tryz.prog 144 #[.pointer (some ⟨A, 0, none⟩), .int .i32 (chr .S)] w (FOPost A m.k .S w) := by
  have hs := h.lt
  have c0 := h.c0
  have hmf := hmf
  have ca : ∀ ob, (w.alloc ob).cell? ⟨A, 0, none⟩ = some (.int .i64 m.k) := fun ob => Lib.cell?_alloc_some _ c0
  unfold chr
  go_enter Tryz.func144, Tryz.ntmps144
  go_wp2_with fail
  refine (wholeAt_any ⟨A, 1, none⟩ 1 1099511627776 _).mono ?_
  rintro e w1 ⟨rfl, hb1, hs1, h3⟩
  have h3 : W3 w1 (w.heap.size + 1) ⟨A, 1, none⟩ 1 1099511627776 := by simpa using h3
  have HF := hide (fo_of hb1)
  have H3 := hide h3
  obtain ⟨q0, q1, q2, q3, z0, z1, z2, z3, _, _, _⟩ := HF.out
  clear hb1 h3
  unfold wF p0
  go_wp2
  exact bodyPost_ret (results_cell_row (p := 4) (ty := 179) rfl _ _ w.heap.size 179 _ (0, 0) _ rfl (HF.out.r _ _ _ _) Tryz.underlying179 rfl (by kernel_rfl)) rfl
    ⟨_, _, _, _, _, rfl, HF.out.b _ _ _ _, _, _, _, _, _, _, _, _, _, rfl, rfl, rfl, rfl, (fd_whole (l := .S) (k := m.k) (X := w.heap.size + 1) (base := w.heap.size + 1) rfl (by omega) (by omega)).keep w1 _ H3.out (fun j hj => HF.out.k _ _ _ _ j (by simp at hj; omega)), (fd_whole (l := .S) (k := m.k) (X := w.heap.size + 1) (base := w.heap.size + 1) rfl (by omega) (by omega))⟩
set_option maxHeartbeats 800000 in
theorem fieldOf_N {w : World} {A : Nat} {m : Ms} (h : Mg w A m) :
    Calls Tryz.prog 144 #[.pointer (some ⟨A, 0, none⟩), .int .i32 (chr .N)] w (FOPost A m.k .N w) := by
  have hs := h.lt
  have c0 := h.c0
  have hmf := hmf
  have ca : ∀ ob, (w.alloc ob).cell? ⟨A, 0, none⟩ = some (.int .i64 m.k) := fun ob => Lib.cell?_alloc_some _ c0
  unfold chr
  go_enter Tryz.func144, Tryz.ntmps144
  go_wp2_with fail
  refine (wholeAt_any ⟨A, 2, none⟩ 1 1099511627776 _).mono ?_
  rintro e w1 ⟨rfl, hb1, hs1, h3⟩
  have h3 : W3 w1 (w.heap.size + 1) ⟨A, 2, none⟩ 1 1099511627776 := by simpa using h3
  have HF := hide (fo_of hb1)
  have H3 := hide h3
  obtain ⟨q0, q1, q2, q3, z0, z1, z2, z3, _, _, _⟩ := HF.out
  clear hb1 h3
  unfold wF p0
  go_wp2
  exact bodyPost_ret (results_cell_row (p := 4) (ty := 179) rfl _ _ w.heap.size 179 _ (0, 0) _ rfl (HF.out.r _ _ _ _) Tryz.underlying179 rfl (by kernel_rfl)) rfl
    ⟨_, _, _, _, _, rfl, HF.out.b _ _ _ _, _, _, _, _, _, _, _, _, _, rfl, rfl, rfl, rfl, (fd_whole (l := .N) (k := m.k) (X := w.heap.size + 1) (base := w.heap.size + 1) rfl (by omega) (by omega)).keep w1 _ H3.out (fun j hj => HF.out.k _ _ _ _ j (by simp at hj; omega)), (fd_whole (l := .N) (k := m.k) (X := w.heap.size + 1) (base := w.heap.size + 1) rfl (by omega) (by omega))⟩
set_option maxHeartbeats 800000 in
theorem fieldOf_J {w : World} {A : Nat} {m : Ms} (h : Mg w A m) :
    Calls Tryz.prog 144 #[.pointer (some ⟨A, 0, none⟩), .int .i32 (chr .J)] w (FOPost A m.k .J w) := by
  have hs := h.lt
  have c0 := h.c0
  have hmf := hmf
  have ca : ∀ ob, (w.alloc ob).cell? ⟨A, 0, none⟩ = some (.int .i64 m.k) := fun ob => Lib.cell?_alloc_some _ c0
  unfold chr
  go_enter Tryz.func144, Tryz.ntmps144
  go_wp2_with fail
  refine (wholeAt_any ⟨A, 3, none⟩ 1 8 _).mono ?_
  rintro e w1 ⟨rfl, hb1, hs1, h3⟩
  have h3 : W3 w1 (w.heap.size + 1) ⟨A, 3, none⟩ 1 8 := by simpa using h3
  have HF := hide (fo_of hb1)
  have H3 := hide h3
  obtain ⟨q0, q1, q2, q3, z0, z1, z2, z3, _, _, _⟩ := HF.out
  clear hb1 h3
  unfold wF p0
  go_wp2
  exact bodyPost_ret (results_cell_row (p := 4) (ty := 179) rfl _ _ w.heap.size 179 _ (0, 0) _ rfl (HF.out.r _ _ _ _) Tryz.underlying179 rfl (by kernel_rfl)) rfl
    ⟨_, _, _, _, _, rfl, HF.out.b _ _ _ _, _, _, _, _, _, _, _, _, _, rfl, rfl, rfl, rfl, (fd_whole (l := .J) (k := m.k) (X := w.heap.size + 1) (base := w.heap.size + 1) rfl (by omega) (by omega)).keep w1 _ H3.out (fun j hj => HF.out.k _ _ _ _ j (by simp at hj; omega)), (fd_whole (l := .J) (k := m.k) (X := w.heap.size + 1) (base := w.heap.size + 1) rfl (by omega) (by omega))⟩
set_option maxHeartbeats 800000 in
theorem fieldOf_B {w : World} {A : Nat} {m : Ms} (h : Mg w A m) :
    Calls Tryz.prog 144 #[.pointer (some ⟨A, 0, none⟩), .int .i32 (chr .B)] w (FOPost A m.k .B w) := by
  have hs := h.lt
  have c0 := h.c0
  have hmf := hmf
  have ca : ∀ ob, (w.alloc ob).cell? ⟨A, 0, none⟩ = some (.int .i64 m.k) := fun ob => Lib.cell?_alloc_some _ c0
  unfold chr
  go_enter Tryz.func144, Tryz.ntmps144
  go_wp2_with fail
  refine (wholeAt_any ⟨A, 4, none⟩ 1 1099511627776 _).mono ?_
  rintro e w1 ⟨rfl, hb1, hs1, h3⟩
  have h3 : W3 w1 (w.heap.size + 1) ⟨A, 4, none⟩ 1 1099511627776 := by simpa using h3
  have HF := hide (fo_of hb1)
  have H3 := hide h3
  obtain ⟨q0, q1, q2, q3, z0, z1, z2, z3, _, _, _⟩ := HF.out
  clear hb1 h3
  unfold wF p0
  go_wp2
  exact bodyPost_ret (results_cell_row (p := 4) (ty := 179) rfl _ _ w.heap.size 179 _ (0, 0) _ rfl (HF.out.r _ _ _ _) Tryz.underlying179 rfl (by kernel_rfl)) rfl
    ⟨_, _, _, _, _, rfl, HF.out.b _ _ _ _, _, _, _, _, _, _, _, _, _, rfl, rfl, rfl, rfl, (fd_whole (l := .B) (k := m.k) (X := w.heap.size + 1) (base := w.heap.size + 1) rfl (by omega) (by omega)).keep w1 _ H3.out (fun j hj => HF.out.k _ _ _ _ j (by simp at hj; omega)), (fd_whole (l := .B) (k := m.k) (X := w.heap.size + 1) (base := w.heap.size + 1) rfl (by omega) (by omega))⟩
set_option maxHeartbeats 800000 in
theorem fieldOf_I {w : World} {A : Nat} {m : Ms} (h : Mg w A m) :
    Calls Tryz.prog 144 #[.pointer (some ⟨A, 0, none⟩), .int .i32 (chr .I)] w (FOPost A m.k .I w) := by
  have hs := h.lt
  have c0 := h.c0
  have hmf := hmf
  have ca : ∀ ob, (w.alloc ob).cell? ⟨A, 0, none⟩ = some (.int .i64 m.k) := fun ob => Lib.cell?_alloc_some _ c0
  unfold chr
  go_enter Tryz.func144, Tryz.ntmps144
  go_wp2_with fail
  have hsz : (w.alloc (.cells #[.nilFunc, .nilFunc, .nilFunc, .nilFunc] 179)).drew.heap.size = w.heap.size + 1 := by simp
  have hn : A ≠ w.heap.size := by omega
  go_region_held3 (fun w' => w'.cell? ⟨A, 0, none⟩ = some (.int .i64 m.k)) (first | go_keep | exact ka | exact cell_other (cell_other (cell_other (cell_other ka hn) hn) hn) hn) (first
    | (go_at_call 178; refine (lastIndex_any m.k _).mono ?_; rintro e w0 ⟨rfl, rfl⟩)
    | (go_at_call 177; refine (wholeAt_any ⟨A, 5, none⟩ 0 (Wr.most m.k .I) _).mono ?_; rintro e w1 ⟨rfl, hb1, hs1, h3⟩; have HF := hide (fo_of (w := w) (w1 := w1) ⟨hb1.os, hb1.tape, hb1.output, hb1.size, hb1.block⟩); have ka : w1.cell? ⟨A, 0, none⟩ = some (.int .i64 m.k) := (hb1.cell (p := ⟨A, 0, none⟩) (by simp; omega)).trans (ca _); obtain ⟨q0, q1, q2, q3, z0, z1, z2, z3, _, _, _⟩ := HF.out; rw [hsz] at h3 ⊢; have H3 := hide h3; clear h3 hb1 hs1; unfold wF p0))
  go_wp2
  exact bodyPost_ret (results_cell_row (p := 4) (ty := 179) rfl _ _ w.heap.size 179 _ (0, 0) _ rfl (HF.out.r _ _ _ _) Tryz.underlying179 rfl (by kernel_rfl)) rfl
    ⟨_, _, _, _, _, rfl, HF.out.b _ _ _ _, _, _, _, _, _, _, _, _, _, rfl, rfl, rfl, rfl, (fd_whole (l := .I) (k := m.k) (X := w.heap.size + 1) (base := w.heap.size + 1) rfl (by omega) (by omega)).keep w1 _ H3.out (fun j hj => HF.out.k _ _ _ _ j (by simp at hj; omega)), (fd_whole (l := .I) (k := m.k) (X := w.heap.size + 1) (base := w.heap.size + 1) rfl (by omega) (by omega))⟩
set_option maxHeartbeats 800000 in
theorem fieldOf_C {w : World} {A : Nat} {m : Ms} (h : Mg w A m) :
    Calls Tryz.prog 144 #[.pointer (some ⟨A, 0, none⟩), .int .i32 (chr .C)] w (FOPost A m.k .C w) := by
  have hs := h.lt
  have c0 := h.c0
  have hmf := hmf
  have ca : ∀ ob, (w.alloc ob).cell? ⟨A, 0, none⟩ = some (.int .i64 m.k) := fun ob => Lib.cell?_alloc_some _ c0
  unfold chr
  go_enter Tryz.func144, Tryz.ntmps144
  go_wp2_with fail
  have hsz : (w.alloc (.cells #[.nilFunc, .nilFunc, .nilFunc, .nilFunc] 179)).drew.heap.size = w.heap.size + 1 := by simp
  have hn : A ≠ w.heap.size := by omega
  go_region_held3 (fun w' => w'.cell? ⟨A, 0, none⟩ = some (.int .i64 m.k)) (first | go_keep | exact ka | exact cell_other (cell_other (cell_other (cell_other ka hn) hn) hn) hn) (first
    | (go_at_call 179; refine (mostCount_any m.k _).mono ?_; rintro e w0 ⟨rfl, rfl⟩)
    | (go_at_call 177; refine (wholeAt_any ⟨A, 6, none⟩ 0 (Wr.most m.k .C) _).mono ?_; rintro e w1 ⟨rfl, hb1, hs1, h3⟩; have HF := hide (fo_of (w := w) (w1 := w1) ⟨hb1.os, hb1.tape, hb1.output, hb1.size, hb1.block⟩); have ka : w1.cell? ⟨A, 0, none⟩ = some (.int .i64 m.k) := (hb1.cell (p := ⟨A, 0, none⟩) (by simp; omega)).trans (ca _); obtain ⟨q0, q1, q2, q3, z0, z1, z2, z3, _, _, _⟩ := HF.out; rw [hsz] at h3 ⊢; have H3 := hide h3; clear h3 hb1 hs1; unfold wF p0))
  go_wp2
  exact bodyPost_ret (results_cell_row (p := 4) (ty := 179) rfl _ _ w.heap.size 179 _ (0, 0) _ rfl (HF.out.r _ _ _ _) Tryz.underlying179 rfl (by kernel_rfl)) rfl
    ⟨_, _, _, _, _, rfl, HF.out.b _ _ _ _, _, _, _, _, _, _, _, _, _, rfl, rfl, rfl, rfl, (fd_whole (l := .C) (k := m.k) (X := w.heap.size + 1) (base := w.heap.size + 1) rfl (by omega) (by omega)).keep w1 _ H3.out (fun j hj => HF.out.k _ _ _ _ j (by simp at hj; omega)), (fd_whole (l := .C) (k := m.k) (X := w.heap.size + 1) (base := w.heap.size + 1) rfl (by omega) (by omega))⟩
set_option maxHeartbeats 800000 in
theorem fieldOf_R {w : World} {A : Nat} {m : Ms} (h : Mg w A m) :
    Calls Tryz.prog 144 #[.pointer (some ⟨A, 0, none⟩), .int .i32 (chr .R)] w (FOPost A m.k .R w) := by
  have hs := h.lt
  have c0 := h.c0
  have hmf := hmf
  have ca : ∀ ob, (w.alloc ob).cell? ⟨A, 0, none⟩ = some (.int .i64 m.k) := fun ob => Lib.cell?_alloc_some _ c0
  unfold chr
  go_enter Tryz.func144, Tryz.ntmps144
  go_wp2_with fail
  refine (resultAt_any A 7 _).mono ?_
  rintro e w1 ⟨Y, C, hY, hC, rfl, hb1, h3⟩
  have hY : w.heap.size + 1 ≤ Y := by simpa using hY
  have hC : w.heap.size + 1 ≤ C := by simpa using hC
  have h3 : R3 w1 (w.heap.size + 1) Y C A 7 := by simpa using h3
  have HF := hide (fo_of hb1)
  have H3 := hide h3
  obtain ⟨q0, q1, q2, q3, z0, z1, z2, z3, _, _, _⟩ := HF.out
  clear hb1 h3
  unfold rF p0
  go_wp2
  exact bodyPost_ret (results_cell_row (p := 4) (ty := 179) rfl _ _ w.heap.size 179 _ (0, 0) _ rfl (HF.out.r _ _ _ _) Tryz.underlying179 rfl (by kernel_rfl)) rfl
    ⟨_, _, _, _, _, rfl, HF.out.b _ _ _ _, _, _, _, _, _, _, _, _, _, rfl, rfl, rfl, rfl, (fd_res (k := m.k) (A := A) (X := w.heap.size + 1) (Y := Y) (C := C) (base := w.heap.size + 1) (by omega) (by omega) (by omega) (by omega)).keep w1 _ H3.out (fun j hj => HF.out.k _ _ _ _ j (by simp at hj; omega)), (fd_res (k := m.k) (X := w.heap.size + 1) (Y := Y) (C := C) (A := A) (base := w.heap.size + 1) (by omega) (by omega) (by omega) (by omega))⟩
set_option maxHeartbeats 800000 in
theorem fieldOf_T {w : World} {A : Nat} {m : Ms} (h : Mg w A m) :
    Calls Tryz.prog 144 #[.pointer (some ⟨A, 0, none⟩), .int .i32 (chr .T)] w (FOPost A m.k .T w) := by
  have hs := h.lt
  have c0 := h.c0
  have hmf := hmf
  have ca : ∀ ob, (w.alloc ob).cell? ⟨A, 0, none⟩ = some (.int .i64 m.k) := fun ob => Lib.cell?_alloc_some _ c0
  unfold chr
  go_enter Tryz.func144, Tryz.ntmps144
  go_wp2_with fail
  refine (textAt_any ⟨A, 9, none⟩ 0 32 _).mono ?_
  rintro e w1 ⟨rfl, hb1, hs1, h3⟩
  have h3 : T3 w1 (w.heap.size + 1) ⟨A, 9, none⟩ 0 32 := by simpa using h3
  have HF := hide (fo_of hb1)
  have H3 := hide h3
  obtain ⟨q0, q1, q2, q3, z0, z1, z2, z3, _, _, _⟩ := HF.out
  clear hb1 h3
  unfold tF p0
  go_wp2
  exact bodyPost_ret (results_cell_row (p := 4) (ty := 179) rfl _ _ w.heap.size 179 _ (0, 0) _ rfl (HF.out.r _ _ _ _) Tryz.underlying179 rfl (by kernel_rfl)) rfl
    ⟨_, _, _, _, _, rfl, HF.out.b _ _ _ _, _, _, _, _, _, _, _, _, _, rfl, rfl, rfl, rfl, (fd_text (l := .T) (k := m.k) (X := w.heap.size + 1) (base := w.heap.size + 1) rfl (by omega) (by omega)).keep w1 _ H3.out (fun j hj => HF.out.k _ _ _ _ j (by simp at hj; omega)), (fd_text (l := .T) (k := m.k) (X := w.heap.size + 1) (base := w.heap.size + 1) rfl (by omega) (by omega))⟩
set_option maxHeartbeats 800000 in
theorem fieldOf_P {w : World} {A : Nat} {m : Ms} (h : Mg w A m) :
    Calls Tryz.prog 144 #[.pointer (some ⟨A, 0, none⟩), .int .i32 (chr .P)] w (FOPost A m.k .P w) := by
  have hs := h.lt
  have c0 := h.c0
  have hmf := hmf
  have ca : ∀ ob, (w.alloc ob).cell? ⟨A, 0, none⟩ = some (.int .i64 m.k) := fun ob => Lib.cell?_alloc_some _ c0
  unfold chr
  go_enter Tryz.func144, Tryz.ntmps144
  go_wp2_with fail
  refine (textAt_any ⟨A, 10, none⟩ 1 1024 _).mono ?_
  rintro e w1 ⟨rfl, hb1, hs1, h3⟩
  have h3 : T3 w1 (w.heap.size + 1) ⟨A, 10, none⟩ 1 1024 := by simpa using h3
  have HF := hide (fo_of hb1)
  have H3 := hide h3
  obtain ⟨q0, q1, q2, q3, z0, z1, z2, z3, _, _, _⟩ := HF.out
  clear hb1 h3
  unfold tF p0
  go_wp2
  exact bodyPost_ret (results_cell_row (p := 4) (ty := 179) rfl _ _ w.heap.size 179 _ (0, 0) _ rfl (HF.out.r _ _ _ _) Tryz.underlying179 rfl (by kernel_rfl)) rfl
    ⟨_, _, _, _, _, rfl, HF.out.b _ _ _ _, _, _, _, _, _, _, _, _, _, rfl, rfl, rfl, rfl, (fd_text (l := .P) (k := m.k) (X := w.heap.size + 1) (base := w.heap.size + 1) rfl (by omega) (by omega)).keep w1 _ H3.out (fun j hj => HF.out.k _ _ _ _ j (by simp at hj; omega)), (fd_text (l := .P) (k := m.k) (X := w.heap.size + 1) (base := w.heap.size + 1) rfl (by omega) (by omega))⟩
end Go.Proofs.YtkfnedhllfdghaaGreatDoor.W
end
