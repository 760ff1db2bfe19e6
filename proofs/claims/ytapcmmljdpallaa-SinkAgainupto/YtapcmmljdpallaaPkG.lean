import Derived.Test.YtapcmmljdpallaaPkF
namespace Go.Proofs.Ytapcmmljdpallaa
open Go.RowKit

/-- what a face comes to: what was read, and the reader behind it; or nothing, and the fault -/
structure FPost (w : World) (B : Nat) (b : ByteArray) (p : Int) (A Z : Value) (q k : Nat) (e : Ending) (w' : World) : Prop where
  ok : k = 0 → e = .returned A ∧ Rd w' B b (q : Int) 0
  no : k ≠ 0 → e = .returned Z ∧ Rd w' B b p (k : Int)
  grown : w.grownBy w' (some B)

theorem grown_trans {a b c : World} {r : Option Nat} (h : a.grownBy b r) (k : b.grownBy c r) : a.grownBy c r :=
  ⟨k.os.trans h.os, k.tape.trans h.tape, k.output.trans h.output, Nat.le_trans h.size k.size, fun i hi hn => (k.block i (Nat.lt_of_lt_of_le hi h.size) hn).trans (h.block i hi hn)⟩
theorem grown_set (w : World) (B k : Nat) (u : Value) : w.grownBy (w.setCell ⟨B, k, none⟩ u) (some B) :=
  ⟨rfl, rfl, rfl, by show _ ≤ (w.heap.modify B _).size; simp, fun i _ hi => Below.heap_setCell w ⟨B, k, none⟩ u i (fun e => hi (by rw [e]))⟩
theorem grown_below {w w' : World} (h : Below w.heap.size w w') (r : Option Nat) : w.grownBy w' r := ⟨h.os, h.tape, h.output, h.size, fun i hi _ => h.block i hi⟩
theorem below_alloc (w : World) (o : Obj) : Below w.heap.size w (w.alloc o) := (Below.refl _ _).alloc (Nat.le_refl _) o

/-- the world in which a face calls what reads: two boxes more -/
abbrev box2 (w : World) (B : Nat) (p : Int) : World := (w.alloc (.cells #[.pointer (some ⟨B, 0, none⟩)] 72)).alloc (.cells #[.int .i64 p] 3)
theorem box2_below (w : World) (B : Nat) (p : Int) : Below w.heap.size w (box2 w B p) := ((Below.refl _ _).alloc (Nat.le_refl _) _).alloc (by simp) _
theorem box2_X (w : World) (B : Nat) (p : Int) : (box2 w B p).cell? ⟨w.heap.size, 0, none⟩ = some (.pointer (some ⟨B, 0, none⟩)) := by
  rw [World.cell?_alloc_past _ _ _ (by simp), World.cell?_alloc_at _ _ _ _ rfl]; rfl
theorem box2_Z (w : World) (B : Nat) (p : Int) : (box2 w B p).cell? ⟨w.heap.size + 1, 0, none⟩ = some (.int .i64 p) := by
  rw [World.cell?_alloc_at _ _ _ _ (by simp)]; rfl
theorem box2_size (w : World) (B : Nat) (p : Int) : (box2 w B p).heap.size = w.heap.size + 2 := by simp

set_option maxHeartbeats 400000 in
theorem faceU {w : World} {B p : Nat} {b : ByteArray} (h : Rd w B b p 0) (C : FuncId) (caps : Array Value) (A : Value) (q k : Nat)
    (hrun : ∀ w1 : World, (callFunc C caps).run Try.prog w1 = .ok (.enter C caps) w1)
    (hc : ∀ w1, Below w.heap.size w w1 → Rd w1 B b p 0 → Calls Try.prog C caps w1 (RPost w1 B b A q k)) :
    Calls Try.prog 35 #[.pointer (some ⟨B, 0, none⟩), .func (.func C) #[] caps] w (FPost w B b p A (.int .u64 0) q k) := by
  have hmf : ∀ (fn : Fn) (first cap : Array Value) (w : World), (Instr.makeFunc fn first cap).run Try.prog w = .ok (.func fn first cap) w := fun _ _ _ _ => rfl
  have HC : Hid (∀ w1, Below w.heap.size w w1 → Rd w1 B b p 0 → Calls Try.prog C caps w1 (RPost w1 B b A q k)) := hc
  have hlt := h.lt
  have c1 := h.c1
  have c2 := h.c2
  have hne : ¬ B = w.heap.size := by omega
  clear hc
  go_enter_defers Try.func35, Try.ntmps35
  go_wp2_with fail
  refine (HC.out _ (box2_below w B p) ((h.alloc _).alloc _)).mono ?_
  rintro e w' (⟨rfl, rfl, hR, hg⟩ | ⟨hk, he, ⟨q', hR⟩, hg⟩)
  · go_wp2_with fail
    refine leaves_cons (f := 53) (args := #[.pointer (some ⟨w.heap.size + 1, 0, none⟩), .pointer (some ⟨w.heap.size, 0, none⟩)]) (by simp) (by simp [go_sem]) ?_
    refine (idleU _ _ _).mono ?_
    rintro e u' w'' ⟨rfl, rfl, rfl⟩
    exact ⟨_, results_tmp rfl _ _ _, fun _ => ⟨rfl, hR⟩, fun h => absurd rfl h, grown_trans (grown_below (box2_below w B p) _) hg⟩
  · unfold Gives at he
    subst he
    have cX := hg.cell (box2_X w B p) (by simp; omega)
    have cZ := hg.cell (box2_Z w B p) (by simp; omega)
    go_wp2_with fail
    refine leaves_cons (f := 53) (args := #[.pointer (some ⟨w.heap.size + 1, 0, none⟩), .pointer (some ⟨w.heap.size, 0, none⟩)]) (by simp) (by simp [go_sem]) ?_
    refine (catchU hR cZ cX []).mono ?_
    rintro e u' w'' ⟨rfl, rfl, rfl⟩
    exact ⟨_, results_tmp rfl _ _ _, fun h0 => absurd h0 hk, fun _ => ⟨rfl, (hR.set1).set2⟩, grown_trans (grown_trans (grown_below (box2_below w B p) _) hg) (grown_trans (grown_set _ _ _ _) (grown_set _ _ _ _))⟩

set_option maxHeartbeats 400000 in
theorem faceU_dead {w : World} {B : Nat} {b : ByteArray} {p f : Int} (h : Rd w B b p f) (hf : f ≠ 0) (C : FuncId) (caps : Array Value) :
    Calls Try.prog 35 #[.pointer (some ⟨B, 0, none⟩), .func (.func C) #[] caps] w fun e w' => e = .returned (.int .u64 0) ∧ Below w.heap.size w w' := by
  have hlt := h.lt
  have c2 := h.c2
  have hne : ¬ B = w.heap.size := by omega
  have b0 : (f != 0) = true := by rw [bne_iff_ne]; exact hf
  clear hf
  go_enter_defers Try.func35, Try.ntmps35
  go_wp2_with fail
  exact ⟨_, results_tmp rfl _ _ _, rfl, below_alloc _ _⟩

set_option maxHeartbeats 400000 in
theorem faceS {w : World} {B p : Nat} {b : ByteArray} (h : Rd w B b p 0) (C : FuncId) (caps : Array Value) (A : Value) (q k : Nat)
    (hrun : ∀ w1 : World, (callFunc C caps).run Try.prog w1 = .ok (.enter C caps) w1)
    (hc : ∀ w1, Below w.heap.size w w1 → Rd w1 B b p 0 → Calls Try.prog C caps w1 (RPost w1 B b A q k)) :
    Calls Try.prog 87 #[.pointer (some ⟨B, 0, none⟩), .func (.func C) #[] caps] w (FPost w B b p A (.string ⟨#[]⟩) q k) := by
  have hmf : ∀ (fn : Fn) (first cap : Array Value) (w : World), (Instr.makeFunc fn first cap).run Try.prog w = .ok (.func fn first cap) w := fun _ _ _ _ => rfl
  have HC : Hid (∀ w1, Below w.heap.size w w1 → Rd w1 B b p 0 → Calls Try.prog C caps w1 (RPost w1 B b A q k)) := hc
  have hlt := h.lt
  have c1 := h.c1
  have c2 := h.c2
  have hne : ¬ B = w.heap.size := by omega
  clear hc
  go_enter_defers Try.func87, Try.ntmps87
  go_wp2_with fail
  refine (HC.out _ (box2_below w B p) ((h.alloc _).alloc _)).mono ?_
  rintro e w' (⟨rfl, rfl, hR, hg⟩ | ⟨hk, he, ⟨q', hR⟩, hg⟩)
  · go_wp2_with fail
    refine leaves_cons (f := 92) (args := #[.pointer (some ⟨w.heap.size + 1, 0, none⟩), .pointer (some ⟨w.heap.size, 0, none⟩)]) (by simp) (by simp [go_sem]) ?_
    refine (idleS _ _ _).mono ?_
    rintro e u' w'' ⟨rfl, rfl, rfl⟩
    exact ⟨_, results_tmp rfl _ _ _, fun _ => ⟨rfl, hR⟩, fun h => absurd rfl h, grown_trans (grown_below (box2_below w B p) _) hg⟩
  · unfold Gives at he
    subst he
    have cX := hg.cell (box2_X w B p) (by simp; omega)
    have cZ := hg.cell (box2_Z w B p) (by simp; omega)
    go_wp2_with fail
    refine leaves_cons (f := 92) (args := #[.pointer (some ⟨w.heap.size + 1, 0, none⟩), .pointer (some ⟨w.heap.size, 0, none⟩)]) (by simp) (by simp [go_sem]) ?_
    refine (catchS hR cZ cX []).mono ?_
    rintro e u' w'' ⟨rfl, rfl, rfl⟩
    exact ⟨_, results_tmp rfl _ _ _, fun h0 => absurd h0 hk, fun _ => ⟨rfl, (hR.set1).set2⟩, grown_trans (grown_trans (grown_below (box2_below w B p) _) hg) (grown_trans (grown_set _ _ _ _) (grown_set _ _ _ _))⟩

set_option maxHeartbeats 400000 in
theorem faceS_dead {w : World} {B : Nat} {b : ByteArray} {p f : Int} (h : Rd w B b p f) (hf : f ≠ 0) (C : FuncId) (caps : Array Value) :
    Calls Try.prog 87 #[.pointer (some ⟨B, 0, none⟩), .func (.func C) #[] caps] w fun e w' => e = .returned (.string ⟨#[]⟩) ∧ Below w.heap.size w w' := by
  have hlt := h.lt
  have c2 := h.c2
  have hne : ¬ B = w.heap.size := by omega
  have b0 : (f != 0) = true := by rw [bne_iff_ne]; exact hf
  clear hf
  go_enter_defers Try.func87, Try.ntmps87
  go_wp2_with fail
  exact ⟨_, results_tmp rfl _ _ _, rfl, below_alloc _ _⟩
end Go.Proofs.Ytapcmmljdpallaa
