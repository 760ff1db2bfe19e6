import Derived.Test.YtpgehocadohkiaaGreatDoorMgBI
import Derived.Laws.EntriesVeiled
import Derived.Laws.ResultCell
import Derived.Laws.Rows
import Derived.Deep.RegionHeld3
import Derived.Test.YtpgehocadohkiaaGreatDoorMgAC
import Derived.Laws.Concat

section
namespace Go.Proofs.YtpgehocadohkiaaGreatDoor.W
open Go.RowKit

/-- a block of one cell -/
def Bx (w : World) (X : Nat) (v : Value) (t : TypeId) : Prop := w.heap[X]? = some (.cells #[v] t (0, 0))
theorem Bx.c {w : World} {X : Nat} {v : Value} {t : TypeId} (h : Bx w X v t) : w.cell? ⟨X, 0, none⟩ = some v := by unfold Bx at h; simp [World.cell?, h]
/-- the boxes of a whole number's field -/
structure W3 (w : World) (X : Nat) (at_ : Addr) (lo hi : Int) : Prop where
  a : Bx w X (.pointer (some at_)) 152
  l : Bx w (X + 1) (.int .i64 lo) 3
  h : Bx w (X + 2) (.int .i64 hi) 3
structure T3 (w : World) (X : Nat) (at_ : Addr) (lo hi : Int) : Prop where
  a : Bx w X (.pointer (some at_)) 156
  l : Bx w (X + 1) (.int .i64 lo) 3
  h : Bx w (X + 2) (.int .i64 hi) 3
def p0 (X : Nat) : Value := .pointer (some ⟨X, 0, none⟩)
def wF (X : Nat) : Array Value := #[.func (.func 109) #[] #[p0 (X + 1), p0 X, p0 (X + 2)], .func (.func 110) #[] #[p0 X], .func (.func 111) #[] #[p0 X], .func (.func 112) #[] #[p0 (X + 2), p0 X]]
def tF (X : Nat) : Array Value := #[.func (.func 118) #[] #[p0 (X + 1), p0 X, p0 (X + 2)], .func (.func 119) #[] #[p0 X], .func (.func 120) #[] #[p0 X], .func (.func 122) #[] #[p0 (X + 2), p0 X]]
theorem hmf : ∀ (fn : Fn) (first cap : Array Value) (w : World), (Instr.makeFunc fn first cap).run Tryz.prog w = .ok (.func fn first cap) w := fun _ _ _ _ => rfl

theorem cells_set {w : World} {B : Nat} {cs : Array Value} {t : TypeId} (h : w.heap[B]? = some (.cells cs t (0, 0))) (k : Nat) (u : Value) : (w.setCell ⟨B, k, none⟩ u).heap[B]? = some (.cells (cs.setIfInBounds k u) t (0, 0)) := by
  have hlt := lt_of_block h
  have h' : w.heap[B] = .cells cs t (0, 0) := by simpa [Array.getElem?_eq_getElem hlt] using h
  show (w.heap.modify B _)[B]? = _
  rw [Array.getElem?_eq_getElem (by simpa using hlt), Array.getElem_modify_self, h']
  rfl
theorem four_blocks (w : World) (o1 o2 o3 o4 : Obj) : ((((w.alloc o1).alloc o2).alloc o3).alloc o4).heap[w.heap.size]? = some o1 ∧ ((((w.alloc o1).alloc o2).alloc o3).alloc o4).heap[w.heap.size + 1]? = some o2 ∧
    ((((w.alloc o1).alloc o2).alloc o3).alloc o4).heap[w.heap.size + 2]? = some o3 ∧ ((((w.alloc o1).alloc o2).alloc o3).alloc o4).heap[w.heap.size + 3]? = some o4 ∧ Below w.heap.size w ((((w.alloc o1).alloc o2).alloc o3).alloc o4) := by
  refine ⟨?_, ?_, ?_, ?_, ?_⟩
  · rw [Below.heap_alloc _ _ _ (by simp; omega), Below.heap_alloc _ _ _ (by simp; omega), Below.heap_alloc _ _ _ (by simp), heap_alloc_new]
  · rw [Below.heap_alloc _ _ _ (by simp), Below.heap_alloc _ _ _ (by simp)]; simpa using heap_alloc_new (w.alloc o1) o2
  · rw [Below.heap_alloc _ _ _ (by simp)]; simpa using heap_alloc_new ((w.alloc o1).alloc o2) o3
  · simpa using heap_alloc_new (((w.alloc o1).alloc o2).alloc o3) o4
  exact ((((Below.refl _ _).alloc (Nat.le_refl _) _).alloc (by simp) _).alloc (by simp; omega) _).alloc (by simp; omega) _
set_option maxHeartbeats 400000 in
theorem wholeAt_any (at_ : Addr) (lo hi : Int) (w : World) :
    Calls Tryz.prog 80 #[.pointer (some at_), .int .i64 lo, .int .i64 hi] w fun e w' => e = .returned (.agg (wF w.heap.size)) ∧ Below w.heap.size w w' ∧ w.heap.size + 3 < w'.heap.size ∧ W3 w' w.heap.size at_ lo hi := by
  have hmf := hmf
  go_enter Tryz.func80, Tryz.ntmps80
  go_wp2
  obtain ⟨b1, b2, b3, b4, bb⟩ := four_blocks w (.cells #[.pointer (some at_)] 152) (.cells #[.int .i64 lo] 3) (.cells #[.int .i64 hi] 3) (.cells (wF w.heap.size) 88)
  exact bodyPost_ret (results_cell_row (p := 6) (ty := 88) rfl _ _ (w.heap.size + 3) 88 _ (0, 0) _ rfl b4 Tryz.underlying88 rfl (by kernel_rfl)) rfl ⟨rfl, bb, lt_of_block b4, b1, b2, b3⟩
set_option maxHeartbeats 400000 in
theorem textAt_any (at_ : Addr) (lo hi : Int) (w : World) :
    Calls Tryz.prog 84 #[.pointer (some at_), .int .i64 lo, .int .i64 hi] w fun e w' => e = .returned (.agg (tF w.heap.size)) ∧ Below w.heap.size w w' ∧ w.heap.size + 3 < w'.heap.size ∧ T3 w' w.heap.size at_ lo hi := by
  have hmf := hmf
  go_enter Tryz.func84, Tryz.ntmps84
  go_wp2
  obtain ⟨b1, b2, b3, b4, bb⟩ := four_blocks w (.cells #[.pointer (some at_)] 156) (.cells #[.int .i64 lo] 3) (.cells #[.int .i64 hi] 3) (.cells (tF w.heap.size) 88)
  exact bodyPost_ret (results_cell_row (p := 6) (ty := 88) rfl _ _ (w.heap.size + 3) 88 _ (0, 0) _ rfl b4 Tryz.underlying88 rfl (by kernel_rfl)) rfl ⟨rfl, bb, lt_of_block b4, b1, b2, b3⟩
end Go.Proofs.YtpgehocadohkiaaGreatDoor.W
end

section
namespace Go.Proofs.YtpgehocadohkiaaGreatDoor.W
open Go.RowKit

theorem hide {p : Prop} (h : p) : Hid p := h
/-- the reader's calls, however it stands -/
theorem rnumP {w : World} {B p f most : Nat} {b : ByteArray} (h : Rd w B b p f) (hp : p ≤ b.size) (hb : b.size ≤ 140737488351232) :
    Calls Tryz.prog 31 #[.pointer (some ⟨B, 0, none⟩), .int .u64 (most : Int)] w fun e w' => e = .returned (.int .u64 ((Wr.rdN b most p f).1 : Int)) ∧ Rd w' B b ((Wr.rdN b most p f).2.1 : Int) ((Wr.rdN b most p f).2.2 : Int) ∧ w.grownBy w' (some B) := by
  by_cases hf : f = 0
  · subst hf
    refine (rnum_any (most := most) h hp hb).mono ?_
    intro e w' hF
    by_cases hk : numK b p most 21 = 0
    · obtain ⟨e1, e2⟩ := hF.ok hk
      unfold Wr.rdN; rw [if_neg (by simp), if_pos hk]; exact ⟨e1, e2, hF.grown⟩
    · obtain ⟨e1, e2⟩ := hF.no hk
      unfold Wr.rdN; rw [if_neg (by simp), if_neg hk]; exact ⟨e1, e2, hF.grown⟩
  · refine (rnum_dead (most := most) h (by omega)).mono ?_
    rintro e w' ⟨e1, hbl⟩
    rw [Wr.rdN_dead hf]; exact ⟨e1, h.below hbl h.lt, grown_below hbl _⟩
theorem rnumQ {w : World} {B p f most : Nat} {b : ByteArray} {x : Int} (h : Rd w B b p f) (hp : p ≤ b.size) (hb : b.size ≤ 140737488351232) (hx : x = (most : Int)) :
    Calls Tryz.prog 31 #[.pointer (some ⟨B, 0, none⟩), .int .u64 x] w fun e w' => e = .returned (.int .u64 ((Wr.rdN b most p f).1 : Int)) ∧ Rd w' B b ((Wr.rdN b most p f).2.1 : Int) ((Wr.rdN b most p f).2.2 : Int) ∧ w.grownBy w' (some B) := by
  subst hx; exact rnumP h hp hb
theorem rtextP {w : World} {B p f most : Nat} {b : ByteArray} (h : Rd w B b p f) (hp : p ≤ b.size) (hb : b.size ≤ 140737488351232) (hm : most ≤ 9223372036854775807) :
    Calls Tryz.prog 123 #[.pointer (some ⟨B, 0, none⟩), .int .i64 (most : Int)] w fun e w' => e = .returned (.string (Wr.rdT b most p f).1) ∧ Rd w' B b ((Wr.rdT b most p f).2.1 : Int) ((Wr.rdT b most p f).2.2 : Int) ∧ w.grownBy w' (some B) := by
  by_cases hf : f = 0
  · subst hf
    refine (rtext_any (most := (most : Int)) (by omega) h hp hb).mono ?_
    rw [show ((most : Int)).toNat = most from rfl]
    intro e w' hF
    by_cases hk : textK b p most = 0
    · obtain ⟨e1, e2⟩ := hF.ok hk
      unfold Wr.rdT; rw [if_neg (by simp), if_pos hk]; exact ⟨e1, e2, hF.grown⟩
    · obtain ⟨e1, e2⟩ := hF.no hk
      unfold Wr.rdT; rw [if_neg (by simp), if_neg hk]; exact ⟨e1, e2, hF.grown⟩
  · refine (rtext_dead (most := (most : Int)) h (by omega)).mono ?_
    rintro e w' ⟨e1, hbl⟩
    rw [Wr.rdT_dead hf]; exact ⟨e1, h.below hbl h.lt, grown_below hbl _⟩
theorem rbitsP {w : World} {B p f : Nat} {b : ByteArray} (h : Rd w B b p f) (hp : p ≤ b.size) (hb : b.size ≤ 140737488351232) :
    Calls Tryz.prog 59 #[.pointer (some ⟨B, 0, none⟩)] w fun e w' => e = .returned (.int .u64 ((Wr.rdB b p f).1 : Int)) ∧ Rd w' B b ((Wr.rdB b p f).2.1 : Int) ((Wr.rdB b p f).2.2 : Int) ∧ w.grownBy w' (some B) := by
  by_cases hf : f = 0
  · subst hf
    refine (rbits_any h hp hb).mono ?_
    intro e w' hF
    by_cases hk : bitsK b p = 0
    · obtain ⟨e1, e2⟩ := hF.ok hk
      unfold Wr.rdB; rw [if_neg (by simp), if_pos hk]; exact ⟨e1, e2, hF.grown⟩
    · obtain ⟨e1, e2⟩ := hF.no hk
      unfold Wr.rdB; rw [if_neg (by simp), if_neg hk]; exact ⟨e1, e2, hF.grown⟩
  · refine (rbits_dead h (by omega)).mono ?_
    rintro e w' ⟨e1, hbl⟩
    rw [Wr.rdB_dead hf]; exact ⟨e1, h.below hbl h.lt, grown_below hbl _⟩

set_option maxHeartbeats 400000 in
theorem whole1_any {w : World} {X : Nat} {a : Addr} {lo hi : Int} {x : Int} (h : W3 w X a lo hi) (ha : w.cell? a = some (.int .i64 x)) :
    Calls Tryz.prog 109 #[p0 (X + 1), p0 X, p0 (X + 2)] w fun e w' => e = .returned (.bool (decide (lo ≤ x ∧ x ≤ hi))) ∧ ∃ n, w' = w.drewN n := by
  have c0 := h.a.c
  have c1 := h.l.c
  have c2 := h.h.c
  unfold p0
  by_cases h1 : lo ≤ x
  · go_enter Tryz.func109, Tryz.ntmps109
    go_wp2_with fail
    go_quiet (fail)
    go_wp2
    go_ret
    exact ⟨congrArg (fun z => Ending.returned (Value.bool z)) (show decide (x ≤ hi) = decide (lo ≤ x ∧ x ≤ hi) by simp [h1]), _, rfl⟩
  · have hd : decide (lo ≤ x) = false := decide_eq_false h1
    go_enter Tryz.func109, Tryz.ntmps109
    go_wp2_with fail
    go_quiet (fail)
    go_wp2
    go_ret
    exact ⟨congrArg (fun z => Ending.returned (Value.bool z)) (show false = decide (lo ≤ x ∧ x ≤ hi) from (decide_eq_false (by omega)).symm), _, rfl⟩
set_option maxHeartbeats 400000 in
theorem whole2_any {w : World} {X : Nat} {a : Addr} {lo hi : Int} {x : Int} (h : W3 w X a lo hi) (ha : w.cell? a = some (.int .i64 x)) (hz : w.frozen? a = false) :
    Calls Tryz.prog 110 #[p0 X] w fun e w' => e = .returned (.tuple #[]) ∧ w' = w.setCell a (.int .i64 0) := by
  have c0 := h.a.c
  unfold p0
  go_enter Tryz.func110, Tryz.ntmps110
  go_wp2_with fail
  go_end0
  exact ⟨rfl, rfl⟩
set_option maxHeartbeats 400000 in
theorem txt1_any {w : World} {X : Nat} {a : Addr} {lo hi : Int} {x : ByteArray} (h : T3 w X a lo hi) (ha : w.cell? a = some (.string x)) :
    Calls Tryz.prog 118 #[p0 (X + 1), p0 X, p0 (X + 2)] w fun e w' => e = .returned (.bool (decide (lo ≤ (x.size : Int) ∧ (x.size : Int) ≤ hi))) ∧ ∃ n, w' = w.drewN n := by
  have c0 := h.a.c
  have c1 := h.l.c
  have c2 := h.h.c
  unfold p0
  by_cases h1 : lo ≤ (x.size : Int)
  · go_enter Tryz.func118, Tryz.ntmps118
    go_wp2_with fail
    go_quiet (fail)
    go_wp2
    go_ret
    exact ⟨congrArg (fun z => Ending.returned (Value.bool z)) (show decide ((x.size : Int) ≤ hi) = decide (lo ≤ (x.size : Int) ∧ (x.size : Int) ≤ hi) by simp [h1]), _, rfl⟩
  · have hd : decide (lo ≤ (x.size : Int)) = false := decide_eq_false h1
    go_enter Tryz.func118, Tryz.ntmps118
    go_wp2_with fail
    go_quiet (fail)
    go_wp2
    go_ret
    exact ⟨congrArg (fun z => Ending.returned (Value.bool z)) (show false = decide (lo ≤ (x.size : Int) ∧ (x.size : Int) ≤ hi) from (decide_eq_false (by omega)).symm), _, rfl⟩
set_option maxHeartbeats 400000 in
theorem txt2_any {w : World} {X : Nat} {a : Addr} {lo hi : Int} {x : ByteArray} (h : T3 w X a lo hi) (ha : w.cell? a = some (.string x)) (hz : w.frozen? a = false) :
    Calls Tryz.prog 119 #[p0 X] w fun e w' => e = .returned (.tuple #[]) ∧ w' = w.setCell a (.string ⟨#[]⟩) := by
  have c0 := h.a.c
  unfold p0
  go_enter Tryz.func119, Tryz.ntmps119
  go_wp2_with fail
  go_end0
  exact ⟨rfl, rfl⟩
set_option maxHeartbeats 400000 in
theorem whole3_any {w : World} {X : Nat} {a : Addr} {lo hi : Int} {x : Nat} (h : W3 w X a lo hi) (ha : w.cell? a = some (.int .i64 (x : Int))) (hx : x < 9223372036854775808) :
    Calls Tryz.prog 111 #[p0 X] w fun e w' => e = .returned (.string ⟨(Pk.enc x).toArray⟩) ∧ Below w.heap.size w w' := by
  have c0 := h.a.c
  unfold p0
  go_enter Tryz.func111, Tryz.ntmps111
  go_wp2_with fail
  refine (pnum_any x (by omega) _).mono ?_
  rintro e w' ⟨rfl, hb⟩
  go_wp2_with fail
  go_ret
  exact ⟨rfl, hb⟩
theorem cell_other {w : World} {a c : Addr} {u v : Value} (h : w.cell? c = some v) (hn : c.block ≠ a.block) : (w.setCell a u).cell? c = some v := by
  unfold World.cell? at h ⊢
  rw [Below.heap_setCell w a u _ hn]; exact h
theorem grown_frozen {w w' : World} {r : Option Nat} (g : w.grownBy w' r) {a : Addr} (h : w.frozen? a = false) (hl : a.block < w.heap.size) (hn : some a.block ≠ r) : w'.frozen? a = false := by
  unfold World.frozen? at h ⊢
  rw [g.block a.block hl hn]; exact h
set_option maxHeartbeats 400000 in
theorem whole4_any {w : World} {X B p f most : Nat} {b : ByteArray} {a : Addr} {lo : Int} {v : Value} (h : W3 w X a lo (most : Int)) (ha : w.cell? a = some v) (hz : w.frozen? a = false) (hR : Rd w B b p f) (hp : p ≤ b.size) (hb : b.size ≤ 140737488351232)
    (hm : most < 9223372036854775808) (haB : a.block ≠ B) (haX : a.block < X) (hXB : B < X) :
    Calls Tryz.prog 112 #[.pointer (some ⟨B, 0, none⟩), p0 (X + 2), p0 X] w fun e w' => e = .returned (.tuple #[]) ∧ ∃ w1, w.grownBy w1 (some B) ∧ Rd w1 B b ((Wr.rdN b most p f).2.1 : Int) ((Wr.rdN b most p f).2.2 : Int) ∧ w' = w1.setCell a (.int .i64 ((Wr.rdN b most p f).1 : Int)) := by
  have c0 := h.a.c
  have c2 := h.h.c
  have hle := (Wr.rdN_le b most p f hp).1
  have haw := World.block_lt_of_cell? _ _ ha
  have n0 : X ≠ a.block := by omega
  have n2 : X + 2 ≠ a.block := by omega
  unfold p0
  go_enter Tryz.func112, Tryz.ntmps112
  go_wp2_with fail
  go_region_held3 (fun w' => w'.cell? ⟨X, 0, none⟩ = some (.pointer (some a)) ∧ w'.cell? ⟨X + 2, 0, none⟩ = some (.int .i64 (most : Int))) (first | go_keep | exact ⟨s0 _, s2 _⟩) (first
    | (go_at_call 31; refine (rnumQ (most := most) (hR.drew _) hp hb (by first | rfl | omega | (rw [IntKind.wrap_u64]; omega))).mono ?_; rintro e w1 ⟨rfl, hR1, hg1⟩; have k0 := hg1.cell c0 (show some X ≠ some B by simp; omega); have k2 := hg1.cell c2 (show some (X + 2) ≠ some B by simp; omega); have ka := hg1.cell ha (show some a.block ≠ some B by simpa using haB); have kz := grown_frozen hg1 hz haw (show some a.block ≠ some B by simpa using haB); have s0 := fun u => cell_other k0 (u := u) n0; have s2 := fun u => cell_other k2 (u := u) n2))
  go_wp2
  go_end0
  have hw : IntKind.i64.wrap ((Wr.rdN b most p f).1 : Int) = ((Wr.rdN b most p f).1 : Int) := by rw [IntKind.wrap_i64]; omega
  exact ⟨rfl, _, grown_trans (grown_drew w 1 _) hg1, hR1, by rw [hw]⟩
set_option maxHeartbeats 400000 in
theorem txt3_any {w : World} {X : Nat} {a : Addr} {lo hi : Int} {x : ByteArray} (h : T3 w X a lo hi) (ha : w.cell? a = some (.string x)) (hx : x.size ≤ 140737488351232) :
    Calls Tryz.prog 120 #[p0 X] w fun e w' => e = .returned (.string ((⟨(Pk.enc x.size).toArray⟩ : ByteArray) ++ x)) ∧ Below w.heap.size w w' := by
  have c0 := h.a.c
  unfold p0
  go_enter Tryz.func120, Tryz.ntmps120
  go_wp2_with fail
  refine (ptext_any x hx _).mono ?_
  rintro e w' ⟨rfl, hb⟩
  go_wp2_with fail
  go_ret
  exact ⟨rfl, hb⟩
set_option maxHeartbeats 400000 in
theorem txt4_any {w : World} {X B p f most : Nat} {b : ByteArray} {a : Addr} {lo : Int} {v : Value} (h : T3 w X a lo (most : Int)) (ha : w.cell? a = some v) (hz : w.frozen? a = false) (hR : Rd w B b p f) (hp : p ≤ b.size) (hb : b.size ≤ 140737488351232)
    (hm : most < 9223372036854775808) (haB : a.block ≠ B) (haX : a.block < X) (hXB : B < X) :
    Calls Tryz.prog 122 #[.pointer (some ⟨B, 0, none⟩), p0 (X + 2), p0 X] w fun e w' => e = .returned (.tuple #[]) ∧ ∃ w1, w.grownBy w1 (some B) ∧ Rd w1 B b ((Wr.rdT b most p f).2.1 : Int) ((Wr.rdT b most p f).2.2 : Int) ∧ w' = w1.setCell a (.string (Wr.rdT b most p f).1) := by
  have c0 := h.a.c
  have c2 := h.h.c
  have haw := World.block_lt_of_cell? _ _ ha
  have n0 : X ≠ a.block := by omega
  have n2 : X + 2 ≠ a.block := by omega
  unfold p0
  go_enter Tryz.func122, Tryz.ntmps122
  go_wp2_with fail
  go_region_held3 (fun w' => w'.cell? ⟨X, 0, none⟩ = some (.pointer (some a)) ∧ w'.cell? ⟨X + 2, 0, none⟩ = some (.int .i64 (most : Int))) (first | go_keep | exact ⟨s0 _, s2 _⟩) (first
    | (go_at_call 123; refine (rtextP (most := most) (hR.drew _) hp hb (by omega)).mono ?_; rintro e w1 ⟨rfl, hR1, hg1⟩; have k0 := hg1.cell c0 (show some X ≠ some B by simp; omega); have k2 := hg1.cell c2 (show some (X + 2) ≠ some B by simp; omega); have ka := hg1.cell ha (show some a.block ≠ some B by simpa using haB); have kz := grown_frozen hg1 hz haw (show some a.block ≠ some B by simpa using haB); have s0 := fun u => cell_other k0 (u := u) n0; have s2 := fun u => cell_other k2 (u := u) n2))
  go_wp2
  go_end0
  exact ⟨rfl, _, grown_trans (grown_drew w 1 _) hg1, hR1, rfl⟩
set_option maxHeartbeats 400000 in
theorem mayBits_any (c : Int) (n : Nat) (hn : n < 18446744073709551616) (w : World) :
    Calls Tryz.prog 114 #[.agg #[.int .i64 c, .int .u64 (n : Int)]] w fun e w' => e = .returned (.bool (Wr.canonB c n)) ∧ Below w.heap.size w w' := by
  have HC := hide (canon_any n hn)
  have hcb : c = 0 → Wr.canonB c n = decide (Gn.canonW n = n) := by
    intro hc
    unfold Wr.canonB Gn.canonW
    rw [if_neg (by simpa using hc)]
    by_cases h : n % 9223372036854775808 > 9218868437227405312
    · rw [if_pos h]; congr 1; apply propext; constructor
      · rintro (h' | h') <;> omega
      · intro h'; exact .inr h'.symm
    · rw [if_neg h]; simp; omega
  by_cases h0 : c = 0
  · have hcb := hcb h0
    subst h0
    have HB := hide hcb
    clear hcb
    go_enter Tryz.func114, Tryz.ntmps114
    go_wp2_with fail
    go_quiet ((go_at_call 92; exact Calls.quiet_of_same (HC.out _)))
    go_wp2
    go_ret
    refine ⟨congrArg (fun z => Ending.returned (Value.bool z)) (show ((Gn.canonW n : Int) == (n : Int)) = Wr.canonB 0 n by rw [HB.out, Bool.eq_iff_iff]; simp; omega), ?_⟩
    have hb := below_alloc w (.cells #[.int .i64 0, .int .u64 (n : Int)] 29)
    exact ⟨hb.os, hb.tape, hb.output, hb.size, hb.block⟩
  · have hcb : Wr.canonB c n = decide (n = 0) := by unfold Wr.canonB; rw [if_pos h0]
    have HB := hide hcb
    clear hcb
    go_enter Tryz.func114, Tryz.ntmps114
    go_wp2
    go_ret
    exact ⟨congrArg (fun z => Ending.returned (Value.bool z)) (show ((n : Int) == 0) = Wr.canonB c n by rw [HB.out, Bool.eq_iff_iff]; simp), below_alloc _ _⟩
end Go.Proofs.YtpgehocadohkiaaGreatDoor.W
end

section
namespace Go.Proofs.YtpgehocadohkiaaGreatDoor.W
open Go.RowKit

def rF (X C : Nat) : Array Value := #[.func (.func 113) #[] #[p0 C, p0 X], .func (.func 115) #[] #[p0 X], .func (.func 116) #[] #[p0 C, p0 X], .func (.func 117) #[] #[p0 C, p0 X]]
structure R3 (w : World) (X Y C A : Nat) (o : Nat) : Prop where
  a : Bx w X (.pointer (some ⟨A, o, none⟩)) 154
  c : W3 w Y ⟨A, o, none⟩ 0 7
  f : w.heap[C]? = some (.cells (wF Y) 88 (0, 0))
theorem R3.c0 {w : World} {X Y C A o : Nat} (h : R3 w X Y C A o) : w.cell? ⟨C, 0, none⟩ = some (.func (.func 109) #[] #[p0 (Y + 1), p0 Y, p0 (Y + 2)]) := by have := h.f; simp [World.cell?, this, wF]
theorem R3.c2 {w : World} {X Y C A o : Nat} (h : R3 w X Y C A o) : w.cell? ⟨C, 2, none⟩ = some (.func (.func 111) #[] #[p0 Y]) := by have := h.f; simp [World.cell?, this, wF]
theorem R3.c3 {w : World} {X Y C A o : Nat} (h : R3 w X Y C A o) : w.cell? ⟨C, 3, none⟩ = some (.func (.func 112) #[] #[p0 (Y + 2), p0 Y]) := by have := h.f; simp [World.cell?, this, wF]

set_option maxHeartbeats 400000 in
theorem resultAt_any (A o : Nat) (w : World) :
    Calls Tryz.prog 83 #[.pointer (some ⟨A, o, none⟩)] w fun e w' => ∃ Y C, w.heap.size ≤ Y ∧ w.heap.size ≤ C ∧ e = .returned (.agg (rF w.heap.size C)) ∧ Below w.heap.size w w' ∧ R3 w' w.heap.size Y C A o := by
  have hmf := hmf
  go_enter Tryz.func83, Tryz.ntmps83
  go_wp2_with fail
  refine (wholeAt_any ⟨A, o, none⟩ 0 7 _).mono ?_
  rintro e w1 ⟨rfl, hb1, hs1, h3⟩
  have hR : w1.heap[w.heap.size + 1]? = some (.cells #[.nilFunc, .nilFunc, .nilFunc, .nilFunc] 88 (0, 0)) := (hb1.block _ (by simp)).trans (by simpa using heap_alloc_new (w.alloc (.cells #[.pointer (some ⟨A, o, none⟩)] 154)) (.cells #[.nilFunc, .nilFunc, .nilFunc, .nilFunc] 88))
  have hRl := lt_of_block hR
  have hRa : ∀ ob, (w1.alloc ob).heap[w.heap.size + 1]? = some (.cells #[.nilFunc, .nilFunc, .nilFunc, .nilFunc] 88 (0, 0)) := fun ob => (Below.heap_alloc w1 ob _ hRl).trans hR
  have hc1 := fun v0 => cells_set hR 0 v0
  have hc2 := fun v0 v1 => cells_set (hc1 v0) 1 v1
  have hc3 := fun v0 v1 v2 => cells_set (hc2 v0 v1) 2 v2
  have hc4 := fun v0 v1 v2 v3 => cells_set (hc3 v0 v1 v2) 3 v3
  have q0 : ∀ ob, (w1.alloc ob).cell? ⟨w.heap.size + 1, 0, none⟩ = some .nilFunc := fun ob => by simp [World.cell?, hRa ob]
  have q1 : ∀ ob v0, ((w1.setCell ⟨w.heap.size + 1, 0, none⟩ v0).alloc ob).cell? ⟨w.heap.size + 1, 1, none⟩ = some .nilFunc := fun ob v0 => Lib.cell?_alloc_some _ (by simp [World.cell?, hc1 v0])
  have q2 : ∀ ob v0 v1, (((w1.setCell ⟨w.heap.size + 1, 0, none⟩ v0).setCell ⟨w.heap.size + 1, 1, none⟩ v1).alloc ob).cell? ⟨w.heap.size + 1, 2, none⟩ = some .nilFunc := fun ob v0 v1 => Lib.cell?_alloc_some _ (by simp [World.cell?, hc2 v0 v1])
  have q3 : ∀ ob v0 v1 v2, ((((w1.setCell ⟨w.heap.size + 1, 0, none⟩ v0).setCell ⟨w.heap.size + 1, 1, none⟩ v1).setCell ⟨w.heap.size + 1, 2, none⟩ v2).alloc ob).cell? ⟨w.heap.size + 1, 3, none⟩ = some .nilFunc := fun ob v0 v1 v2 => Lib.cell?_alloc_some _ (by simp [World.cell?, hc3 v0 v1 v2])
  have fz : ∀ (w2 : World) (ob : Obj) (cs : Array Value) (k : Nat), w2.heap[w.heap.size + 1]? = some (.cells cs 88 (0, 0)) → (w2.alloc ob).frozen? ⟨w.heap.size + 1, k, none⟩ = false := fun w2 ob cs k h => by simp [World.frozen?, Below.heap_alloc w2 ob _ (lt_of_block h), h]
  have z0 := fun ob k => fz _ ob _ k hR
  have z1 := fun ob k v0 => fz _ ob _ k (hc1 v0)
  have z2 := fun ob k v0 v1 => fz _ ob _ k (hc2 v0 v1)
  have z3 := fun ob k v0 v1 v2 => fz _ ob _ k (hc3 v0 v1 v2)
  clear hc1 hc2 hc3 fz
  have HC4 := hide hc4
  have HR := hide hR
  clear hc4 hR hRa
  have fin : ∀ v0 v1 v2 v3 ob k, k ≠ w.heap.size + 1 → k < w1.heap.size → (((((w1.setCell ⟨w.heap.size + 1, 0, none⟩ v0).setCell ⟨w.heap.size + 1, 1, none⟩ v1).setCell ⟨w.heap.size + 1, 2, none⟩ v2).setCell ⟨w.heap.size + 1, 3, none⟩ v3).alloc ob).heap[k]? = w1.heap[k]? := fun v0 v1 v2 v3 ob k hk hl => by
    rw [Below.heap_alloc _ _ _ (by simpa using hl), Below.heap_setCell _ _ _ _ hk, Below.heap_setCell _ _ _ _ hk, Below.heap_setCell _ _ _ _ hk, Below.heap_setCell _ _ _ _ hk]
  have fib : ∀ v0 v1 v2 v3 ob, Below w.heap.size w (((((w1.setCell ⟨w.heap.size + 1, 0, none⟩ v0).setCell ⟨w.heap.size + 1, 1, none⟩ v1).setCell ⟨w.heap.size + 1, 2, none⟩ v2).setCell ⟨w.heap.size + 1, 3, none⟩ v3).alloc ob) := fun v0 v1 v2 v3 ob =>
    ⟨hb1.os, hb1.tape, hb1.output, by have := hb1.size; simp at this ⊢; omega, fun k hk => (fin v0 v1 v2 v3 ob k (by omega) (by omega)).trans ((hb1.block k (by simp; omega)).trans ((below_two w _ _).block k hk))⟩
  have fir : ∀ v0 v1 v2 v3 ob, (((((w1.setCell ⟨w.heap.size + 1, 0, none⟩ v0).setCell ⟨w.heap.size + 1, 1, none⟩ v1).setCell ⟨w.heap.size + 1, 2, none⟩ v2).setCell ⟨w.heap.size + 1, 3, none⟩ v3).alloc ob).heap[w.heap.size + 1]? = some (.cells #[v0, v1, v2, v3] 88 (0, 0)) := fun v0 v1 v2 v3 ob => (Below.heap_alloc _ _ _ (by simpa using hRl)).trans (HC4.out v0 v1 v2 v3)
  have fic : ∀ v0 v1 v2 v3 ob, (((((w1.setCell ⟨w.heap.size + 1, 0, none⟩ v0).setCell ⟨w.heap.size + 1, 1, none⟩ v1).setCell ⟨w.heap.size + 1, 2, none⟩ v2).setCell ⟨w.heap.size + 1, 3, none⟩ v3).alloc ob).heap[w1.heap.size]? = some ob := fun v0 v1 v2 v3 ob => by simpa using heap_alloc_new ((((w1.setCell ⟨w.heap.size + 1, 0, none⟩ v0).setCell ⟨w.heap.size + 1, 1, none⟩ v1).setCell ⟨w.heap.size + 1, 2, none⟩ v2).setCell ⟨w.heap.size + 1, 3, none⟩ v3) ob
  have hX : w1.heap[w.heap.size]? = some (.cells #[.pointer (some ⟨A, o, none⟩)] 154 (0, 0)) := (hb1.block _ (by simp; omega)).trans ((Below.heap_alloc _ _ _ (by simp)).trans (heap_alloc_new w _))
  have h3 : W3 w1 (w.heap.size + 1 + 1) ⟨A, o, none⟩ 0 7 := by simpa using h3
  have hs1 : w.heap.size + 1 + 1 + 3 < w1.heap.size := by simpa using hs1
  have F := hide (And.intro fin (And.intro fib (And.intro fir (And.intro fic (And.intro h3 hX)))))
  clear fin fib fir fic h3 hX hb1
  unfold wF p0
  go_wp2
  obtain ⟨fin, fib, fir, fic, h3, hX⟩ := F.out
  exact bodyPost_ret (results_cell_row (p := 2) (ty := 88) rfl _ _ (w.heap.size + 1) 88 _ (0, 0) _ rfl (fir _ _ _ _ _) Tryz.underlying88 rfl (by kernel_rfl)) rfl
    ⟨w.heap.size + 1 + 1, w1.heap.size, by omega, by omega, rfl, fib _ _ _ _ _, (fin _ _ _ _ _ _ (by omega) (by omega)).trans hX, ⟨(fin _ _ _ _ _ _ (by omega) (by omega)).trans h3.a, (fin _ _ _ _ _ _ (by omega) (by omega)).trans h3.l, (fin _ _ _ _ _ _ (by omega) (by omega)).trans h3.h⟩, fic _ _ _ _ _⟩
set_option maxHeartbeats 400000 in
theorem res1_any {w : World} {X Y C A o : Nat} {c : Int} {n : Nat} (h : R3 w X Y C A o) (ha : w.cell? ⟨A, o, none⟩ = some (.int .i64 c)) (hb : w.cell? ⟨A, o + 1, none⟩ = some (.int .u64 (n : Int))) (hn : n < 18446744073709551616) :
    Calls Tryz.prog 113 #[p0 C, p0 X] w fun e w' => e = .returned (.bool (decide (0 ≤ c ∧ c ≤ 7) && Wr.canonB c n)) ∧ Below w.heap.size w w' := by
  have c0 := h.c0
  have cX := h.a.c
  have HW := hide (whole1_any h.c ha)
  have HM := hide (mayBits_any c n hn)
  unfold p0 at *
  go_enter Tryz.func113, Tryz.ntmps113
  go_wp2_with fail
  refine HW.out.mono ?_
  rintro e w1 ⟨rfl, nd, rfl⟩
  have hda : ∀ x : Addr, (w.drewN nd).cell? x = w.cell? x := fun _ => rfl
  by_cases h1 : 0 ≤ c ∧ c ≤ 7
  · have hd : decide (0 ≤ c ∧ c ≤ 7) = true := decide_eq_true h1
    rw [hd]
    go_wp2_with fail
    refine (HM.out _).mono ?_
    rintro e w2 ⟨rfl, hb2⟩
    go_wp2_with fail
    go_ret
    exact ⟨by simp [h1], ⟨hb2.os, hb2.tape, hb2.output, hb2.size, hb2.block⟩⟩
  · have hd : decide (0 ≤ c ∧ c ≤ 7) = false := decide_eq_false h1
    rw [hd]
    go_wp2_with fail
    go_ret
    exact ⟨by simp; intro u v; exact absurd ⟨u, v⟩ h1, ⟨rfl, rfl, rfl, Nat.le_refl _, fun _ _ => rfl⟩⟩
set_option maxHeartbeats 400000 in
theorem res2_any {w : World} {X Y C A o : Nat} {c : Int} {n : Nat} (h : R3 w X Y C A o) (ha : w.cell? ⟨A, o, none⟩ = some (.int .i64 c)) (hb : w.cell? ⟨A, o + 1, none⟩ = some (.int .u64 (n : Int))) (hz : ∀ k, w.frozen? ⟨A, k, none⟩ = false) :
    Calls Tryz.prog 115 #[p0 X] w fun e w' => e = .returned (.tuple #[]) ∧ w' = (w.setCell ⟨A, o, none⟩ (.int .i64 0)).setCell ⟨A, o + 1, none⟩ (.int .u64 0) := by
  have cX := h.a.c
  unfold p0 at *
  go_enter Tryz.func115, Tryz.ntmps115
  go_wp2_with fail
  go_end0
  exact ⟨rfl, rfl⟩
theorem bits_add {a b : ByteArray} (h : a.size + b.size ≤ 9223372036854775807) (w1 : World) : (Op.stringOp .add a b).run Tryz.prog w1 = .ok (.string (a ++ b)) w1 := by
  exact run_string_add_sum w1 _ _ h
theorem W3.below {w w' : World} {X : Nat} {a : Addr} {lo hi : Int} (h : W3 w X a lo hi) (hb : Below w.heap.size w w') : W3 w' X a lo hi :=
  ⟨(hb.block _ (lt_of_block h.a)).trans h.a, (hb.block _ (lt_of_block h.l)).trans h.l, (hb.block _ (lt_of_block h.h)).trans h.h⟩
theorem W3.drew {w : World} {X : Nat} {a : Addr} {lo hi : Int} (h : W3 w X a lo hi) (n : Nat) : W3 (w.drewN n) X a lo hi := ⟨h.a, h.l, h.h⟩
theorem below_dr {k : Nat} {w w' : World} {n : Nat} (h : Below k (w.drewN n) w') : Below k w w' := ⟨h.os, h.tape, h.output, h.size, h.block⟩
set_option maxHeartbeats 400000 in
theorem res3_any {w : World} {X Y C A o : Nat} {c n : Nat} (h : R3 w X Y C A o) (ha : w.cell? ⟨A, o, none⟩ = some (.int .i64 (c : Int))) (hb : w.cell? ⟨A, o + 1, none⟩ = some (.int .u64 (n : Int))) (hc : c < 9223372036854775808) (hn : n < 18446744073709551616) :
    Calls Tryz.prog 116 #[p0 C, p0 X] w fun e w' => e = .returned (.string ((⟨(Pk.enc c).toArray⟩ : ByteArray) ++ ⟨(Pk.big8 n).toArray⟩)) ∧ Below w.heap.size w w' := by
  have c2 := h.c2
  have cX := h.a.c
  have lA := World.block_lt_of_cell? _ _ ha
  have lC := World.block_lt_of_cell? _ _ c2
  have lX := World.block_lt_of_cell? _ _ cX
  have hadd := bits_add (a := ⟨(Pk.enc c).toArray⟩) (b := ⟨(Pk.big8 n).toArray⟩) (by have := Pk.enc_ten (n := c) (by omega); show (Pk.enc c).toArray.size + (Pk.big8 n).toArray.size ≤ _; rw [show (Pk.big8 n).toArray.size = 8 from rfl]; simp; omega)
  unfold p0 at *
  go_enter Tryz.func116, Tryz.ntmps116
  go_wp2_with fail
  go_region_held3 (fun w' => w'.cell? ⟨C, 2, none⟩ = some (.func (.func 111) #[] #[.pointer (some ⟨Y, 0, none⟩)]) ∧ w'.cell? ⟨X, 0, none⟩ = some (.pointer (some ⟨A, o, none⟩)) ∧ w'.cell? ⟨A, o + 1, none⟩ = some (.int .u64 (n : Int))) (go_keep) (first
    | (go_at_call 111; first | (refine (whole3_any (h.c.below hb1) ((hb1.cell (p := ⟨A, o, none⟩) lA).trans ha) hc).mono ?_; rintro e w2 ⟨rfl, hb2⟩; have hb2 := hb1.trans (hb2.mono hb1.size); have kC := (hb2.cell (p := ⟨C, 2, none⟩) lC).trans c2; have kX := (hb2.cell (p := ⟨X, 0, none⟩) lX).trans cX; have kA := (hb2.cell (p := ⟨A, o + 1, none⟩) lA).trans hb) | (refine (whole3_any (h.c.drew _) ha hc).mono ?_; rintro e w1 ⟨rfl, hb1⟩; have hb1 := below_dr hb1; have kC := (hb1.cell (p := ⟨C, 2, none⟩) lC).trans c2; have kX := (hb1.cell (p := ⟨X, 0, none⟩) lX).trans cX; have kA := (hb1.cell (p := ⟨A, o + 1, none⟩) lA).trans hb))
    | (go_at_call 40; first | (refine (pbits_any n hn w1).mono ?_; rintro e w2 ⟨rfl, hb2⟩; have hb2 := hb1.trans (hb2.mono hb1.size); have kC := (hb2.cell (p := ⟨C, 2, none⟩) lC).trans c2; have kX := (hb2.cell (p := ⟨X, 0, none⟩) lX).trans cX; have kA := (hb2.cell (p := ⟨A, o + 1, none⟩) lA).trans hb) | (refine (pbits_any n hn (w.drewN _)).mono ?_; rintro e w1 ⟨rfl, hb1⟩; have hb1 := below_dr hb1; have kC := (hb1.cell (p := ⟨C, 2, none⟩) lC).trans c2; have kX := (hb1.cell (p := ⟨X, 0, none⟩) lX).trans cX; have kA := (hb1.cell (p := ⟨A, o + 1, none⟩) lA).trans hb)))
  all_goals
    go_wp2
    go_ret
    exact ⟨rfl, hb2⟩
end Go.Proofs.YtpgehocadohkiaaGreatDoor.W
end

section
namespace Go.Proofs.YtpgehocadohkiaaGreatDoor.W
open Go.RowKit
open Wr (Ms V L)

theorem cell_next {w : World} {A o : Nat} {x v : Value} (h : w.cell? ⟨A, o + 1, none⟩ = some v) : (w.setCell ⟨A, o, none⟩ x).cell? ⟨A, o + 1, none⟩ = some v := by
  exact (World.cell?_setCell_other (w := w) (a := ⟨A, o, none⟩) (b := ⟨A, o + 1, none⟩) (v := x) (by simp)).trans h
theorem frozen_set {w : World} {A o : Nat} {x : Value} (h : ∀ k, w.frozen? ⟨A, k, none⟩ = false) : ∀ k, (w.setCell ⟨A, o, none⟩ x).frozen? ⟨A, k, none⟩ = false := by
  intro k
  simpa using h k
set_option maxHeartbeats 400000 in
theorem res4_any {w : World} {X Y C A o B p f : Nat} {b : ByteArray} {u v : Value} (h : R3 w X Y C A o) (ha : w.cell? ⟨A, o, none⟩ = some u) (hb : w.cell? ⟨A, o + 1, none⟩ = some v) (hz : ∀ k, w.frozen? ⟨A, k, none⟩ = false)
    (hR : Rd w B b p f) (hp : p ≤ b.size) (hbs : b.size ≤ 140737488351232) (hAB : A ≠ B) (hA : A < X ∧ A < Y ∧ A < C) (hB : B < X ∧ B < Y ∧ B < C) :
    Calls Tryz.prog 117 #[.pointer (some ⟨B, 0, none⟩), p0 C, p0 X] w fun e w' => e = .returned (.tuple #[]) ∧ ∃ w1 w2, w.grownBy w1 (some B) ∧ (w1.setCell ⟨A, o, none⟩ (.int .i64 ((Wr.rdN b 7 p f).1 : Int))).grownBy w2 (some B) ∧
      Rd w2 B b ((Wr.rdB b (Wr.rdN b 7 p f).2.1 (Wr.rdN b 7 p f).2.2).2.1 : Int) ((Wr.rdB b (Wr.rdN b 7 p f).2.1 (Wr.rdN b 7 p f).2.2).2.2 : Int) ∧ w' = w2.setCell ⟨A, o + 1, none⟩ (.int .u64 ((Wr.rdB b (Wr.rdN b 7 p f).2.1 (Wr.rdN b 7 p f).2.2).1 : Int)) := by
  have c3 := h.c3
  have cX := h.a.c
  have lA := World.block_lt_of_cell? _ _ ha
  have HW := hide (whole4_any (most := 7) h.c ha (hz _) hR hp hbs (by decide) hAB hA.2.1 hB.2.1)
  have hp1 := (Wr.rdN_le b 7 p f hp).2
  unfold p0 at *
  go_enter Tryz.func117, Tryz.ntmps117
  go_wp2_with fail
  refine HW.out.mono ?_
  rintro e w0 ⟨rfl, w1, hg1, hR1, rfl⟩
  generalize hx : Value.int .i64 ((Wr.rdN b 7 p f).1 : Int) = x at *
  generalize hP : (Wr.rdN b 7 p f).2.1 = p1 at *
  generalize hF : (Wr.rdN b 7 p f).2.2 = f1 at *
  have hR2 := hR1.other ⟨A, o, none⟩ x (fun e => hAB e.symm)
  have kX := cell_other (a := ⟨A, o, none⟩) (u := x) (hg1.cell cX (show some X ≠ some B by simp; omega)) (show X ≠ A by omega)
  have kA1 := hg1.cell hb (show some A ≠ some B by simpa using hAB)
  have kA := cell_next (x := x) kA1
  have kz := frozen_set (x := x) (o := o) fun k => grown_frozen hg1 (hz k) lA (show some A ≠ some B by simpa using hAB)
  have lA2 : A < (w1.setCell ⟨A, o, none⟩ x).heap.size := World.block_lt_of_cell? _ _ kA
  have hsz : ∀ u, w1.grownBy (w1.setCell ⟨A, o, none⟩ u) (some A) := fun u => grown_set _ _ _ _
  have HX := hide (And.intro hx (And.intro hP hF))
  clear hx hP hF
  generalize hW : w1.setCell ⟨A, o, none⟩ x = W at *
  have HY := hide hW
  clear hW
  go_wp2_with fail
  go_region_held3 (fun w' => w'.cell? ⟨X, 0, none⟩ = some (.pointer (some ⟨A, o, none⟩))) (first | go_keep | exact s0 _) (first
    | (go_at_call 59; refine (rbitsP (hR2.drew _) hp1 hbs).mono ?_; rintro e w2 ⟨rfl, hR3, hg2⟩; have k0 := hg2.cell kX (show some X ≠ some B by simp; omega); have ka := hg2.cell kA (show some A ≠ some B by simpa using hAB); have kz2 := fun k => grown_frozen hg2 (kz k) lA2 (show some A ≠ some B by simpa using hAB); have s0 := fun u => cell_other (a := ⟨A, o + 1, none⟩) k0 (u := u) (show X ≠ A by omega)))
  go_wp2
  go_end0
  obtain ⟨hx, hP, hF⟩ := HX.out
  have hW := HY.out
  subst hx hP hF
  exact ⟨rfl, w1, w2, hg1, by rw [hW]; exact grown_trans (grown_drew W 1 _) hg2, hR3, rfl⟩
end Go.Proofs.YtpgehocadohkiaaGreatDoor.W
end
