import Derived.Test.YtapcmmljdpallaaWrA
import Derived.Deep.RegionHeld3
import Derived.Test.YtapcmmljdpallaaWalkA
namespace Go.Proofs.Ytapcmmljdpallaa
open Go.RowKit

theorem hide {p : Prop} (h : p) : Hid p := h
/-- the reader's calls, however it stands -/
theorem rnumP {w : World} {B p f most : Nat} {b : ByteArray} (h : Rd w B b p f) (hp : p ≤ b.size) (hb : b.size ≤ 140737488351232) :
    Calls Try.prog 24 #[.pointer (some ⟨B, 0, none⟩), .int .u64 (most : Int)] w fun e w' => e = .returned (.int .u64 ((Wr.rdN b most p f).1 : Int)) ∧ Rd w' B b ((Wr.rdN b most p f).2.1 : Int) ((Wr.rdN b most p f).2.2 : Int) ∧ w.grownBy w' (some B) := by
  by_cases hf : f = 0
  · subst hf
    refine (rnum_any (most := most) h hp hb).mono ?_
    intro e w' hF
    by_cases hk : numK b p most 21 = 0
    · obtain ⟨e1, e2⟩ := hF.ok hk
      unfold Wr.rdN; rw [if_neg (by simp), if_pos hk]; exact ⟨e1, e2, hF.grown⟩
    · obtain ⟨e1, e2⟩ := hF.no hk
      unfold Wr.rdN; rw [if_neg (by simp), if_neg hk]; exact ⟨e1, e2, hF.grown⟩
  · refine (rnum_dead (most := most) h (by omega)).mono ?_
    rintro e w' ⟨e1, hbl⟩
    rw [Wr.rdN_dead hf]; exact ⟨e1, h.below hbl h.lt, grown_below hbl _⟩
theorem rnumQ {w : World} {B p f most : Nat} {b : ByteArray} {x : Int} (h : Rd w B b p f) (hp : p ≤ b.size) (hb : b.size ≤ 140737488351232) (hx : x = (most : Int)) :
    Calls Try.prog 24 #[.pointer (some ⟨B, 0, none⟩), .int .u64 x] w fun e w' => e = .returned (.int .u64 ((Wr.rdN b most p f).1 : Int)) ∧ Rd w' B b ((Wr.rdN b most p f).2.1 : Int) ((Wr.rdN b most p f).2.2 : Int) ∧ w.grownBy w' (some B) := by
  subst hx; exact rnumP h hp hb
theorem rtextP {w : World} {B p f most : Nat} {b : ByteArray} (h : Rd w B b p f) (hp : p ≤ b.size) (hb : b.size ≤ 140737488351232) (hm : most ≤ 9223372036854775807) :
    Calls Try.prog 82 #[.pointer (some ⟨B, 0, none⟩), .int .i64 (most : Int)] w fun e w' => e = .returned (.string (Wr.rdT b most p f).1) ∧ Rd w' B b ((Wr.rdT b most p f).2.1 : Int) ((Wr.rdT b most p f).2.2 : Int) ∧ w.grownBy w' (some B) := by
  by_cases hf : f = 0
  · subst hf
    refine (rtext_any (most := (most : Int)) (by omega) h hp hb).mono ?_
    rw [show ((most : Int)).toNat = most from rfl]
    intro e w' hF
    by_cases hk : textK b p most = 0
    · obtain ⟨e1, e2⟩ := hF.ok hk
      unfold Wr.rdT; rw [if_neg (by simp), if_pos hk]; exact ⟨e1, e2, hF.grown⟩
    · obtain ⟨e1, e2⟩ := hF.no hk
      unfold Wr.rdT; rw [if_neg (by simp), if_neg hk]; exact ⟨e1, e2, hF.grown⟩
  · refine (rtext_dead (most := (most : Int)) h (by omega)).mono ?_
    rintro e w' ⟨e1, hbl⟩
    rw [Wr.rdT_dead hf]; exact ⟨e1, h.below hbl h.lt, grown_below hbl _⟩
theorem rbitsP {w : World} {B p f : Nat} {b : ByteArray} (h : Rd w B b p f) (hp : p ≤ b.size) (hb : b.size ≤ 140737488351232) :
    Calls Try.prog 76 #[.pointer (some ⟨B, 0, none⟩)] w fun e w' => e = .returned (.int .u64 ((Wr.rdB b p f).1 : Int)) ∧ Rd w' B b ((Wr.rdB b p f).2.1 : Int) ((Wr.rdB b p f).2.2 : Int) ∧ w.grownBy w' (some B) := by
  by_cases hf : f = 0
  · subst hf
    refine (rbits_any h hp hb).mono ?_
    intro e w' hF
    by_cases hk : bitsK b p = 0
    · obtain ⟨e1, e2⟩ := hF.ok hk
      unfold Wr.rdB; rw [if_neg (by simp), if_pos hk]; exact ⟨e1, e2, hF.grown⟩
    · obtain ⟨e1, e2⟩ := hF.no hk
      unfold Wr.rdB; rw [if_neg (by simp), if_neg hk]; exact ⟨e1, e2, hF.grown⟩
  · refine (rbits_dead h (by omega)).mono ?_
    rintro e w' ⟨e1, hbl⟩
    rw [Wr.rdB_dead hf]; exact ⟨e1, h.below hbl h.lt, grown_below hbl _⟩

set_option maxHeartbeats 400000 in
theorem whole1_any {w : World} {X : Nat} {a : Addr} {lo hi : Int} {x : Int} (h : W3 w X a lo hi) (ha : w.cell? a = some (.int .i64 x)) :
    Calls Try.prog 66 #[p0 (X + 1), p0 X, p0 (X + 2)] w fun e w' => e = .returned (.bool (decide (lo ≤ x ∧ x ≤ hi))) ∧ ∃ n, w' = w.drewN n := by
  have c0 := h.a.c
  have c1 := h.l.c
  have c2 := h.h.c
  unfold p0
  by_cases h1 : lo ≤ x
  · go_enter Try.func66, Try.ntmps66
    go_wp2_with fail
    go_quiet (fail)
    go_wp2
    go_ret
    exact ⟨congrArg (fun z => Ending.returned (Value.bool z)) (show decide (x ≤ hi) = decide (lo ≤ x ∧ x ≤ hi) by simp [h1]), _, rfl⟩
  · have hd : decide (lo ≤ x) = false := decide_eq_false h1
    go_enter Try.func66, Try.ntmps66
    go_wp2_with fail
    go_quiet (fail)
    go_wp2
    go_ret
    exact ⟨congrArg (fun z => Ending.returned (Value.bool z)) (show false = decide (lo ≤ x ∧ x ≤ hi) from (decide_eq_false (by omega)).symm), _, rfl⟩
set_option maxHeartbeats 400000 in
theorem whole2_any {w : World} {X : Nat} {a : Addr} {lo hi : Int} {x : Int} (h : W3 w X a lo hi) (ha : w.cell? a = some (.int .i64 x)) (hz : w.frozen? a = false) :
    Calls Try.prog 67 #[p0 X] w fun e w' => e = .returned (.tuple #[]) ∧ w' = w.setCell a (.int .i64 0) := by
  have c0 := h.a.c
  unfold p0
  go_enter Try.func67, Try.ntmps67
  go_wp2_with fail
  go_end0
  exact ⟨rfl, rfl⟩
set_option maxHeartbeats 400000 in
theorem txt1_any {w : World} {X : Nat} {a : Addr} {lo hi : Int} {x : ByteArray} (h : T3 w X a lo hi) (ha : w.cell? a = some (.string x)) :
    Calls Try.prog 77 #[p0 (X + 1), p0 X, p0 (X + 2)] w fun e w' => e = .returned (.bool (decide (lo ≤ (x.size : Int) ∧ (x.size : Int) ≤ hi))) ∧ ∃ n, w' = w.drewN n := by
  have c0 := h.a.c
  have c1 := h.l.c
  have c2 := h.h.c
  unfold p0
  by_cases h1 : lo ≤ (x.size : Int)
  · go_enter Try.func77, Try.ntmps77
    go_wp2_with fail
    go_quiet (fail)
    go_wp2
    go_ret
    exact ⟨congrArg (fun z => Ending.returned (Value.bool z)) (show decide ((x.size : Int) ≤ hi) = decide (lo ≤ (x.size : Int) ∧ (x.size : Int) ≤ hi) by simp [h1]), _, rfl⟩
  · have hd : decide (lo ≤ (x.size : Int)) = false := decide_eq_false h1
    go_enter Try.func77, Try.ntmps77
    go_wp2_with fail
    go_quiet (fail)
    go_wp2
    go_ret
    exact ⟨congrArg (fun z => Ending.returned (Value.bool z)) (show false = decide (lo ≤ (x.size : Int) ∧ (x.size : Int) ≤ hi) from (decide_eq_false (by omega)).symm), _, rfl⟩
set_option maxHeartbeats 400000 in
theorem txt2_any {w : World} {X : Nat} {a : Addr} {lo hi : Int} {x : ByteArray} (h : T3 w X a lo hi) (ha : w.cell? a = some (.string x)) (hz : w.frozen? a = false) :
    Calls Try.prog 78 #[p0 X] w fun e w' => e = .returned (.tuple #[]) ∧ w' = w.setCell a (.string ⟨#[]⟩) := by
  have c0 := h.a.c
  unfold p0
  go_enter Try.func78, Try.ntmps78
  go_wp2_with fail
  go_end0
  exact ⟨rfl, rfl⟩
set_option maxHeartbeats 400000 in
theorem whole3_any {w : World} {X : Nat} {a : Addr} {lo hi : Int} {x : Nat} (h : W3 w X a lo hi) (ha : w.cell? a = some (.int .i64 (x : Int))) (hx : x < 9223372036854775808) :
    Calls Try.prog 68 #[p0 X] w fun e w' => e = .returned (.string ⟨(Pk.enc x).toArray⟩) ∧ Below w.heap.size w w' := by
  have c0 := h.a.c
  unfold p0
  go_enter Try.func68, Try.ntmps68
  go_wp2_with fail
  refine (pnum_any x (by omega) _).mono ?_
  rintro e w' ⟨rfl, hb⟩
  go_wp2_with fail
  go_ret
  exact ⟨rfl, hb⟩
theorem cell_other {w : World} {a c : Addr} {u v : Value} (h : w.cell? c = some v) (hn : c.block ≠ a.block) : (w.setCell a u).cell? c = some v := by
  unfold World.cell? at h ⊢
  rw [Below.heap_setCell w a u _ hn]; exact h
theorem grown_frozen {w w' : World} {r : Option Nat} (g : w.grownBy w' r) {a : Addr} (h : w.frozen? a = false) (hl : a.block < w.heap.size) (hn : some a.block ≠ r) : w'.frozen? a = false := by
  unfold World.frozen? at h ⊢
  rw [g.block a.block hl hn]; exact h
set_option maxHeartbeats 400000 in
theorem whole4_any {w : World} {X B p f most : Nat} {b : ByteArray} {a : Addr} {lo : Int} {v : Value} (h : W3 w X a lo (most : Int)) (ha : w.cell? a = some v) (hz : w.frozen? a = false) (hR : Rd w B b p f) (hp : p ≤ b.size) (hb : b.size ≤ 140737488351232)
    (hm : most < 9223372036854775808) (haB : a.block ≠ B) (haX : a.block < X) (hXB : B < X) :
    Calls Try.prog 69 #[.pointer (some ⟨B, 0, none⟩), p0 (X + 2), p0 X] w fun e w' => e = .returned (.tuple #[]) ∧ ∃ w1, w.grownBy w1 (some B) ∧ Rd w1 B b ((Wr.rdN b most p f).2.1 : Int) ((Wr.rdN b most p f).2.2 : Int) ∧ w' = w1.setCell a (.int .i64 ((Wr.rdN b most p f).1 : Int)) := by
  have c0 := h.a.c
  have c2 := h.h.c
  have hle := (Wr.rdN_le b most p f hp).1
  have haw := World.block_lt_of_cell? _ _ ha
  have n0 : X ≠ a.block := by omega
  have n2 : X + 2 ≠ a.block := by omega
  unfold p0
  go_enter Try.func69, Try.ntmps69
  go_wp2_with fail
  go_region_held3 (fun w' => w'.cell? ⟨X, 0, none⟩ = some (.pointer (some a)) ∧ w'.cell? ⟨X + 2, 0, none⟩ = some (.int .i64 (most : Int))) (first | go_keep | exact ⟨s0 _, s2 _⟩) (first
    | (go_at_call 24; refine (rnumQ (most := most) (hR.drew _) hp hb (by first | rfl | omega | (rw [IntKind.wrap_u64]; omega))).mono ?_; rintro e w1 ⟨rfl, hR1, hg1⟩; have k0 := hg1.cell c0 (show some X ≠ some B by simp; omega); have k2 := hg1.cell c2 (show some (X + 2) ≠ some B by simp; omega); have ka := hg1.cell ha (show some a.block ≠ some B by simpa using haB); have kz := grown_frozen hg1 hz haw (show some a.block ≠ some B by simpa using haB); have s0 := fun u => cell_other k0 (u := u) n0; have s2 := fun u => cell_other k2 (u := u) n2))
  go_wp2
  go_end0
  have hw : IntKind.i64.wrap ((Wr.rdN b most p f).1 : Int) = ((Wr.rdN b most p f).1 : Int) := by rw [IntKind.wrap_i64]; omega
  exact ⟨rfl, _, grown_trans (grown_drew w 1 _) hg1, hR1, by rw [hw]⟩
set_option maxHeartbeats 400000 in
theorem txt3_any {w : World} {X : Nat} {a : Addr} {lo hi : Int} {x : ByteArray} (h : T3 w X a lo hi) (ha : w.cell? a = some (.string x)) (hx : x.size ≤ 140737488351232) :
    Calls Try.prog 79 #[p0 X] w fun e w' => e = .returned (.string ((⟨(Pk.enc x.size).toArray⟩ : ByteArray) ++ x)) ∧ Below w.heap.size w w' := by
  have c0 := h.a.c
  unfold p0
  go_enter Try.func79, Try.ntmps79
  go_wp2_with fail
  refine (ptext_any x hx _).mono ?_
  rintro e w' ⟨rfl, hb⟩
  go_wp2_with fail
  go_ret
  exact ⟨rfl, hb⟩
set_option maxHeartbeats 400000 in
theorem txt4_any {w : World} {X B p f most : Nat} {b : ByteArray} {a : Addr} {lo : Int} {v : Value} (h : T3 w X a lo (most : Int)) (ha : w.cell? a = some v) (hz : w.frozen? a = false) (hR : Rd w B b p f) (hp : p ≤ b.size) (hb : b.size ≤ 140737488351232)
    (hm : most < 9223372036854775808) (haB : a.block ≠ B) (haX : a.block < X) (hXB : B < X) :
    Calls Try.prog 81 #[.pointer (some ⟨B, 0, none⟩), p0 (X + 2), p0 X] w fun e w' => e = .returned (.tuple #[]) ∧ ∃ w1, w.grownBy w1 (some B) ∧ Rd w1 B b ((Wr.rdT b most p f).2.1 : Int) ((Wr.rdT b most p f).2.2 : Int) ∧ w' = w1.setCell a (.string (Wr.rdT b most p f).1) := by
  have c0 := h.a.c
  have c2 := h.h.c
  have haw := World.block_lt_of_cell? _ _ ha
  have n0 : X ≠ a.block := by omega
  have n2 : X + 2 ≠ a.block := by omega
  unfold p0
  go_enter Try.func81, Try.ntmps81
  go_wp2_with fail
  go_region_held3 (fun w' => w'.cell? ⟨X, 0, none⟩ = some (.pointer (some a)) ∧ w'.cell? ⟨X + 2, 0, none⟩ = some (.int .i64 (most : Int))) (first | go_keep | exact ⟨s0 _, s2 _⟩) (first
    | (go_at_call 82; refine (rtextP (most := most) (hR.drew _) hp hb (by omega)).mono ?_; rintro e w1 ⟨rfl, hR1, hg1⟩; have k0 := hg1.cell c0 (show some X ≠ some B by simp; omega); have k2 := hg1.cell c2 (show some (X + 2) ≠ some B by simp; omega); have ka := hg1.cell ha (show some a.block ≠ some B by simpa using haB); have kz := grown_frozen hg1 hz haw (show some a.block ≠ some B by simpa using haB); have s0 := fun u => cell_other k0 (u := u) n0; have s2 := fun u => cell_other k2 (u := u) n2))
  go_wp2
  go_end0
  exact ⟨rfl, _, grown_trans (grown_drew w 1 _) hg1, hR1, rfl⟩
set_option maxHeartbeats 400000 in
theorem mayBits_any (c : Int) (n : Nat) (hn : n < 18446744073709551616) (w : World) :
    Calls Try.prog 71 #[.agg #[.int .i64 c, .int .u64 (n : Int)]] w fun e w' => e = .returned (.bool (Wr.canonB c n)) ∧ Below w.heap.size w w' := by
  have HC := hide (canon_any n hn)
  have hcb : c = 0 → Wr.canonB c n = decide (Gn.canonW n = n) := by
    intro hc
    unfold Wr.canonB Gn.canonW
    rw [if_neg (by simpa using hc)]
    by_cases h : n % 9223372036854775808 > 9218868437227405312
    · rw [if_pos h]; congr 1; apply propext; constructor
      · rintro (h' | h') <;> omega
      · intro h'; exact .inr h'.symm
    · rw [if_neg h]; simp; omega
  by_cases h0 : c = 0
  · have hcb := hcb h0
    subst h0
    have HB := hide hcb
    clear hcb
    go_enter Try.func71, Try.ntmps71
    go_wp2_with fail
    go_quiet ((go_at_call 84; exact Calls.quiet_of_same (HC.out _)))
    go_wp2
    go_ret
    refine ⟨congrArg (fun z => Ending.returned (Value.bool z)) (show ((Gn.canonW n : Int) == (n : Int)) = Wr.canonB 0 n by rw [HB.out, Bool.eq_iff_iff]; simp; omega), ?_⟩
    have hb := below_alloc w (.cells #[.int .i64 0, .int .u64 (n : Int)] 43)
    exact ⟨hb.os, hb.tape, hb.output, hb.size, hb.block⟩
  · have hcb : Wr.canonB c n = decide (n = 0) := by unfold Wr.canonB; rw [if_pos h0]
    have HB := hide hcb
    clear hcb
    go_enter Try.func71, Try.ntmps71
    go_wp2
    go_ret
    exact ⟨congrArg (fun z => Ending.returned (Value.bool z)) (show ((n : Int) == 0) = Wr.canonB c n by rw [HB.out, Bool.eq_iff_iff]; simp), below_alloc _ _⟩
end Go.Proofs.Ytapcmmljdpallaa
