import Derived.Test.YtkfnedhllfdghaaGreatDoorMgAD
import Derived.Deep.QuietTactic
import Derived.BigQuiet
import Derived.Test.YtkfnedhllfdghaaGreatDoorRows
import Derived.Test.YtkfnedhllfdghaaGreatDoorMgAE
import Derived.WalkKit
import Derived.WalkSpells
import Derived.WalkLawsBesides

section
namespace Go.Proofs.YtkfnedhllfdghaaGreatDoor
set_option maxRecDepth 20000
open Go.RowKit

abbrev str (l : Array UInt8) : Value := .string ⟨l⟩

theorem indexByte_run (s : ByteArray) (c : Int) (w : World) : (callFunc 321 #[.string s, .int .u8 c]).run Tryz.prog w = .ok (.value (.int .i64 (firstIdx s c.toNat.toUInt8))) w := by
  rw [run_callFunc_extern (e := Extern.BytealgIndexByte.indexByte) Tryz.func321 (by kernel_rfl) (by kernel_rfl) (by kernel_rfl) (by kernel_rfl), run_indexByte_string]
  rfl
theorem indexByte_calls (s : ByteArray) (c : Int) (w : World) : Calls Tryz.prog 313 #[.string s, .int .u8 c] w fun e w' => e = .returned (.int .i64 (firstIdx s c.toNat.toUInt8)) ∧ w' = w := by
  have hr := indexByte_run s c
  go_enter Tryz.func313, Tryz.ntmps313
  go_wp2
  go_ret
  exact ⟨rfl, rfl⟩
theorem u8_p : ((⟨#[112]⟩ : ByteArray)[0]'(by decide)) = 112 := by decide
theorem p_is (s : ByteArray) (h : ([112] == s.toList) = true) : firstIdx s 112 = 0 := by
  have e : s = ⟨#[112]⟩ := by
    have e1 : [112] = s.toList := by simpa using h
    have e2 : s.data.toList = [112] := by rw [e1, ByteArray.toList_eq]
    cases s with | mk d =>
      have : d = #[112] := by cases d; simp at e2; rw [e2]
      rw [this]
  subst e; decide
end Go.Proofs.YtkfnedhllfdghaaGreatDoor
end

section
namespace Go.Proofs.YtkfnedhllfdghaaGreatDoor
set_option maxRecDepth 20000
open Go.RowKit

/-- a reader's block -/
def Rd (w : World) (B : Nat) (b : ByteArray) (p f : Int) : Prop := w.heap[B]? = some (.cells #[.string b, .int .i64 p, .int .i64 f] 224 (0, 0))

theorem Rd.c0 {w : World} {B : Nat} {b : ByteArray} {p f : Int} (h : Rd w B b p f) : w.cell? ⟨B, 0, none⟩ = some (.string b) := by unfold Rd at h; simp [World.cell?, h]
theorem Rd.c1 {w : World} {B : Nat} {b : ByteArray} {p f : Int} (h : Rd w B b p f) : w.cell? ⟨B, 1, none⟩ = some (.int .i64 p) := by unfold Rd at h; simp [World.cell?, h]
theorem Rd.c2 {w : World} {B : Nat} {b : ByteArray} {p f : Int} (h : Rd w B b p f) : w.cell? ⟨B, 2, none⟩ = some (.int .i64 f) := by unfold Rd at h; simp [World.cell?, h]
theorem Rd.z {w : World} {B : Nat} {b : ByteArray} {p f : Int} (h : Rd w B b p f) (k : Nat) : w.frozen? ⟨B, k, none⟩ = false := by unfold Rd at h; simp [World.frozen?, h]
theorem Rd.lt {w : World} {B : Nat} {b : ByteArray} {p f : Int} (h : Rd w B b p f) : B < w.heap.size := lt_of_block h
theorem Rd.drew {w : World} {B : Nat} {b : ByteArray} {p f : Int} (h : Rd w B b p f) (n : Nat) : Rd (w.drewN n) B b p f := h
theorem Rd.alloc {w : World} {B : Nat} {b : ByteArray} {p f : Int} (h : Rd w B b p f) (o : Obj) : Rd (w.alloc o) B b p f := by
  unfold Rd at *; rw [Below.heap_alloc w o B (lt_of_block h)]; exact h
theorem Rd.other {w : World} {B : Nat} {b : ByteArray} {p f : Int} (h : Rd w B b p f) (a : Addr) (u : Value) (hn : B ≠ a.block) : Rd (w.setCell a u) B b p f := by
  unfold Rd at *; rw [Below.heap_setCell w a u B hn]; exact h
theorem Rd.grown {w w' : World} {B : Nat} {b : ByteArray} {p f : Int} (h : Rd w B b p f) {r : Option Nat} (g : w.grownBy w' r) (hn : some B ≠ r) : Rd w' B b p f := by
  unfold Rd at *; rw [g.block B (lt_of_block h) hn]; exact h
theorem Rd.below {w w' : World} {B : Nat} {b : ByteArray} {p f : Int} (h : Rd w B b p f) {k : Nat} (g : Below k w w') (hn : B < k) : Rd w' B b p f := by
  unfold Rd at *; rw [g.block B hn]; exact h
theorem Rd.set1 {w : World} {B : Nat} {b : ByteArray} {p f q : Int} (h : Rd w B b p f) : Rd (w.setCell ⟨B, 1, none⟩ (.int .i64 q)) B b q f := by
  unfold Rd at *
  have hlt := lt_of_block h
  have h' : w.heap[B] = .cells #[.string b, .int .i64 p, .int .i64 f] 224 (0, 0) := by simpa [Array.getElem?_eq_getElem hlt] using h
  show (w.heap.modify B _)[B]? = _
  rw [Array.getElem?_eq_getElem (by simpa using hlt), Array.getElem_modify_self, h']
  rfl
theorem Rd.set2 {w : World} {B : Nat} {b : ByteArray} {p f q : Int} (h : Rd w B b p f) : Rd (w.setCell ⟨B, 2, none⟩ (.int .i64 q)) B b p q := by
  unfold Rd at *
  have hlt := lt_of_block h
  have h' : w.heap[B] = .cells #[.string b, .int .i64 p, .int .i64 f] 224 (0, 0) := by simpa [Array.getElem?_eq_getElem hlt] using h
  show (w.heap.modify B _)[B]? = _
  rw [Array.getElem?_eq_getElem (by simpa using hlt), Array.getElem_modify_self, h']
  rfl

set_option maxHeartbeats 400000 in
theorem left_any {w : World} {B : Nat} {b : ByteArray} {p f : Int} (h : Rd w B b p f) (hp0 : 0 ≤ p) (hp : p ≤ (b.size : Int)) (hb : b.size ≤ 140737488351232) :
    Calls Tryz.prog 145 #[.pointer (some ⟨B, 0, none⟩)] w fun e w' => e = .returned (.int .i64 ((b.size : Int) - p)) ∧ ∃ n, w' = w.drewN n := by
  have c0 := h.c0
  have c1 := h.c1
  go_enter Tryz.func145, Tryz.ntmps145
  go_wp2
  go_quiet (fail)
  go_wp2
  go_ret
  exact ⟨rfl, _, rfl⟩
end Go.Proofs.YtkfnedhllfdghaaGreatDoor
end
