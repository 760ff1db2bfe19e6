import Derived.Test.YtjabnddjahhgoaaPkA
import Derived.Deep.Cut
namespace Go.Proofs.Ytjabnddjahhgoaa
open Go.RowKit

set_option maxHeartbeats 400000 in
theorem fault_any {w : World} {B : Nat} {b : ByteArray} {p f : Int} (h : Rd w B b p f) :
    Calls Try.prog 42 #[.pointer (some ⟨B, 0, none⟩)] w fun e w' => e = .returned (.tuple #[.int .i64 f, .int .i64 (if f = 0 then 0 else p)]) ∧ ∃ n, w' = w.drewN n := by
  have c1 := h.c1
  have c2 := h.c2
  by_cases hf : f = 0
  · subst hf
    go_enter Try.func42, Try.ntmps42
    go_wp2
    go_ret2
    exact ⟨rfl, 0, rfl⟩
  · have hf' : (f == 0) = false := by rw [beq_eq_false_iff_ne]; exact hf
    rw [if_neg hf]
    clear hf
    go_enter Try.func42, Try.ntmps42
    go_wp2
    go_quiet (fail)
    go_wp2
    go_ret2
    exact ⟨rfl, _, rfl⟩

/-- what End tells -/
def endE (b : ByteArray) (p f : Int) : Int := if f = 0 ∧ p < (b.size : Int) then 24 else f
def endP (b : ByteArray) (p f : Int) : Int := if f = 0 ∧ ¬ p < (b.size : Int) then 0 else p

/-- a panic with an error's number -/
def Gives (e : Ending) (k : Int) : Prop := e = .panicked [{ v := .iface 30 (.int .i64 k), recovered := false }]

theorem gSet (w : World) (B k n m : Nat) {u : Value} : w.grownBy (((w.drewN n).setCell ⟨B, k, none⟩ u).drewN m) (some B) :=
  ⟨rfl, rfl, rfl, by show _ ≤ (w.heap.modify B _).size; simp, fun i _ hi => Below.heap_setCell w ⟨B, k, none⟩ u i (fun e => hi (by rw [e]))⟩
set_option maxHeartbeats 400000 in
theorem take_any {w : World} {B : Nat} {b : ByteArray} {p m f : Int} (h : Rd w B b p f) (hp0 : 0 ≤ p) (hp : p ≤ (b.size : Int)) (hb : b.size ≤ 140737488351232) (hm0 : 0 ≤ m) (hm : m ≤ (b.size : Int) - p) :
    Calls Try.prog 87 #[.pointer (some ⟨B, 0, none⟩), .int .i64 m] w fun e w' =>
      e = .returned (.string (b.extract p.toNat (p + m).toNat)) ∧ Rd w' B b (p + m) f ∧ w.grownBy w' (some B) := by
  have c0 := h.c0
  have c1 := h.c1
  have z1 := h.z 1
  have hm' : decide ((b.size : Int) - p < m) = false := by simp; omega
  have c0' := (h.set1 (q := p + m)).c0
  have c1' := (h.set1 (q := p + m)).c1
  go_enter Try.func87, Try.ntmps87
  go_wp2_with (go_at_call 34; refine (left_any h hp0 hp hb).mono ?_; rintro e w' ⟨rfl, n, rfl⟩)
  go_quiet (fail)
  go_wp2
  go_ret
  exact ⟨rfl, h.set1, gSet _ _ _ _ _⟩
set_option maxHeartbeats 400000 in
theorem take_short {w : World} {B : Nat} {b : ByteArray} {p m f : Int} (h : Rd w B b p f) (hp0 : 0 ≤ p) (hp : p ≤ (b.size : Int)) (hb : b.size ≤ 140737488351232) (hm : ¬ m ≤ (b.size : Int) - p) :
    Calls Try.prog 87 #[.pointer (some ⟨B, 0, none⟩), .int .i64 m] w fun e w' => Gives e 20 ∧ ∃ n, w' = w.drewN n := by
  have hm' : decide ((b.size : Int) - p < m) = true := by simp; omega
  go_enter Try.func87, Try.ntmps87
  go_wp2_with (go_at_call 34; refine (left_any h hp0 hp hb).mono ?_; rintro e w' ⟨rfl, n, rfl⟩)
  exact ⟨rfl, rfl, _, rfl⟩
end Go.Proofs.Ytjabnddjahhgoaa
