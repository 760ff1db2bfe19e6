import Derived.Test.YtapcmmljdpallaaPkA
import Derived.Deep.Cut
namespace Go.Proofs.Ytapcmmljdpallaa
open Go.RowKit

set_option maxHeartbeats 400000 in
theorem fault_any {w : World} {B : Nat} {b : ByteArray} {p f : Int} (h : Rd w B b p f) :
    Calls Try.prog 41 #[.pointer (some ⟨B, 0, none⟩)] w fun e w' => e = .returned (.tuple #[.int .i64 f, .int .i64 (if f = 0 then 0 else p)]) ∧ ∃ n, w' = w.drewN n := by
  have c1 := h.c1
  have c2 := h.c2
  by_cases hf : f = 0
  · subst hf
    go_enter Try.func41, Try.ntmps41
    go_wp2
    go_ret2
    exact ⟨rfl, 0, rfl⟩
  · have hf' : (f == 0) = false := by rw [beq_eq_false_iff_ne]; exact hf
    rw [if_neg hf]
    clear hf
    go_enter Try.func41, Try.ntmps41
    go_wp2
    go_quiet (fail)
    go_wp2
    go_ret2
    exact ⟨rfl, _, rfl⟩

/-- what End tells -/
def endE (b : ByteArray) (p f : Int) : Int := if f = 0 ∧ p < (b.size : Int) then 24 else f
def endP (b : ByteArray) (p f : Int) : Int := if f = 0 ∧ ¬ p < (b.size : Int) then 0 else p

set_option maxHeartbeats 400000 in
theorem end_any {w : World} {B : Nat} {b : ByteArray} {p f : Int} (h : Rd w B b p f) (hp0 : 0 ≤ p) (hp : p ≤ (b.size : Int)) (hb : b.size ≤ 140737488351232) :
    Calls Try.prog 26 #[.pointer (some ⟨B, 0, none⟩)] w fun e w' => e = .returned (.tuple #[.int .i64 (endE b p f), .int .i64 (endP b p f)]) ∧ ∃ n, w' = w.drewN n := by
  have c1 := h.c1
  have c2 := h.c2
  by_cases hf : f = 0
  · subst hf
    by_cases hl : p < (b.size : Int)
    · have e1 : endE b p 0 = 24 := by unfold endE; rw [if_pos ⟨rfl, hl⟩]
      have e2 : endP b p 0 = p := by unfold endP; rw [if_neg (fun k => k.2 hl)]
      rw [e1, e2]
      have hl' : decide (p < (b.size : Int)) = true := by simp; omega
      clear e1 e2 hl
      go_enter Try.func26, Try.ntmps26
      go_wp2_with (go_at_call 40; refine (left_any h hp0 hp hb).mono ?_; rintro e w' ⟨rfl, n, rfl⟩)
      go_quiet (fail)
      go_wp2
      go_ret2
      exact ⟨rfl, _, World.drewN_drewN _ _ _⟩
    · have e1 : endE b p 0 = 0 := by unfold endE; rw [if_neg (fun k => hl k.2)]
      have e2 : endP b p 0 = 0 := by unfold endP; rw [if_pos ⟨rfl, hl⟩]
      rw [e1, e2]
      have hl' : decide (p < (b.size : Int)) = false := by simp; omega
      have HF : ∀ w1 : World, Rd w1 B b p 0 → Calls Try.prog 41 #[.pointer (some ⟨B, 0, none⟩)] w1 fun e w' => e = .returned (.tuple #[.int .i64 0, .int .i64 0]) ∧ ∃ n, w' = w1.drewN n := fun w1 h1 => fault_any h1
      have HF' : Hid (∀ w1 : World, Rd w1 B b p 0 → Calls Try.prog 41 #[.pointer (some ⟨B, 0, none⟩)] w1 fun e w' => e = .returned (.tuple #[.int .i64 0, .int .i64 0]) ∧ ∃ n, w' = w1.drewN n) := HF
      clear e1 e2 hl HF
      go_enter Try.func26, Try.ntmps26
      go_wp2_with (first
        | (go_at_call 40; refine (left_any h hp0 hp hb).mono ?_; rintro e w' ⟨rfl, n, rfl⟩)
        | (go_at_call 41; refine (HF'.out _ (h.drew _)).mono ?_; rintro e w' ⟨rfl, m, rfl⟩))
      go_ret2
      exact ⟨rfl, _, rfl⟩
  · have hf' : (f == 0) = false := by rw [beq_eq_false_iff_ne]; exact hf
    have e1 : endE b p f = f := by unfold endE; rw [if_neg (fun k => hf k.1)]
    have e2 : endP b p f = p := by unfold endP; rw [if_neg (fun k => hf k.1)]
    have e3 : (if f = 0 then 0 else p) = p := if_neg hf
    have hfa := fault_any h
    rw [e3] at hfa
    have HF : Hid (Calls Try.prog 41 #[.pointer (some ⟨B, 0, none⟩)] w fun e w' => e = .returned (.tuple #[.int .i64 f, .int .i64 p]) ∧ ∃ n, w' = w.drewN n) := hfa
    clear hfa
    rw [e1, e2]
    clear e1 e2 e3 hf
    go_enter Try.func26, Try.ntmps26
    go_wp2_with (go_at_call 41; refine HF.out.mono ?_; rintro e w' ⟨rfl, m, rfl⟩)
    go_ret2
    exact ⟨rfl, _, rfl⟩

/-- a panic with an error's number -/
def Gives (e : Ending) (k : Int) : Prop := e = .panicked [{ v := .iface 36 (.int .i64 k), recovered := false }]

theorem gSet (w : World) (B k n m : Nat) {u : Value} : w.grownBy (((w.drewN n).setCell ⟨B, k, none⟩ u).drewN m) (some B) :=
  ⟨rfl, rfl, rfl, by show _ ≤ (w.heap.modify B _).size; simp, fun i _ hi => Below.heap_setCell w ⟨B, k, none⟩ u i (fun e => hi (by rw [e]))⟩
set_option maxHeartbeats 400000 in
theorem take_any {w : World} {B : Nat} {b : ByteArray} {p m f : Int} (h : Rd w B b p f) (hp0 : 0 ≤ p) (hp : p ≤ (b.size : Int)) (hb : b.size ≤ 140737488351232) (hm0 : 0 ≤ m) (hm : m ≤ (b.size : Int) - p) :
    Calls Try.prog 86 #[.pointer (some ⟨B, 0, none⟩), .int .i64 m] w fun e w' =>
      e = .returned (.string (b.extract p.toNat (p + m).toNat)) ∧ Rd w' B b (p + m) f ∧ w.grownBy w' (some B) := by
  have c0 := h.c0
  have c1 := h.c1
  have z1 := h.z 1
  have hm' : decide ((b.size : Int) - p < m) = false := by simp; omega
  have c0' := (h.set1 (q := p + m)).c0
  have c1' := (h.set1 (q := p + m)).c1
  go_enter Try.func86, Try.ntmps86
  go_wp2_with (go_at_call 40; refine (left_any h hp0 hp hb).mono ?_; rintro e w' ⟨rfl, n, rfl⟩)
  go_quiet (fail)
  go_wp2
  go_ret
  exact ⟨rfl, h.set1, gSet _ _ _ _ _⟩
set_option maxHeartbeats 400000 in
theorem take_short {w : World} {B : Nat} {b : ByteArray} {p m f : Int} (h : Rd w B b p f) (hp0 : 0 ≤ p) (hp : p ≤ (b.size : Int)) (hb : b.size ≤ 140737488351232) (hm : ¬ m ≤ (b.size : Int) - p) :
    Calls Try.prog 86 #[.pointer (some ⟨B, 0, none⟩), .int .i64 m] w fun e w' => Gives e 20 ∧ ∃ n, w' = w.drewN n := by
  have hm' : decide ((b.size : Int) - p < m) = true := by simp; omega
  go_enter Try.func86, Try.ntmps86
  go_wp2_with (go_at_call 40; refine (left_any h hp0 hp hb).mono ?_; rintro e w' ⟨rfl, n, rfl⟩)
  exact ⟨rfl, rfl, _, rfl⟩
end Go.Proofs.Ytapcmmljdpallaa
