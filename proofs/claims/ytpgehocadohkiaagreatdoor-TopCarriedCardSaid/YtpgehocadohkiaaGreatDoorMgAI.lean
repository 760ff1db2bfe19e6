import Derived.Test.YtpgehocadohkiaaGreatDoorMgAC
import Derived.Deep.QuietTactic
import Derived.BigQuiet
import Derived.Test.YtpgehocadohkiaaGreatDoorRows
import Derived.Test.YtpgehocadohkiaaGreatDoorMgAD
import Derived.WalkKit
import Derived.WalkSpells
import Derived.WalkLawsBesides

section
namespace Go.Proofs.YtpgehocadohkiaaGreatDoor
open Go.RowKit

abbrev str (l : Array UInt8) : Value := .string ⟨l⟩

set_option maxHeartbeats 400000 in
theorem isWhole_5 (w : World) : Calls Tryz.prog 210 #[.string ⟨#[53]⟩] w fun e w' => e = .returned (.bool true) ∧ w' = w := by
  go_enter Tryz.func210, Tryz.ntmps210
  go_wp2
  refine wp_loop_rounds 2 ?_
  rw [rounds_succ]
  go_wp2
  rw [rounds_succ]
  go_wp2
  go_ret
  exact ⟨rfl, rfl⟩
set_option maxHeartbeats 400000 in
theorem isWhole_1024 (w : World) : Calls Tryz.prog 210 #[.string ⟨#[49, 48, 50, 52]⟩] w fun e w' => e = .returned (.bool true) ∧ w' = w := by
  go_enter Tryz.func210, Tryz.ntmps210
  go_wp2
  refine wp_loop_rounds 5 ?_
  rw [rounds_succ]
  go_wp2
  rw [rounds_succ]
  go_wp2
  rw [rounds_succ]
  go_wp2
  rw [rounds_succ]
  go_wp2
  rw [rounds_succ]
  go_wp2
  go_ret
  exact ⟨rfl, rfl⟩
set_option maxHeartbeats 400000 in
theorem cutPrefix_none (s : ByteArray) (h : s.size = 0) (w : World) : Calls Tryz.prog 75 #[.string s, .string ⟨#[45]⟩] w fun e w' => e = .returned (.tuple #[.string s, .bool false]) ∧ w' = w := by
  have h1 : ¬ ((1 : Int) ≤ (s.size : Int)) := by omega
  go_enter Tryz.func75, Tryz.ntmps75
  go_wp2
  go_ret2
  exact ⟨rfl, rfl⟩
set_option maxHeartbeats 400000 in
theorem cutPrefix_no (s : ByteArray) (hs : 1 ≤ s.size) (h : ((s.extract 0 1).toList == [45]) = false) (w : World) : Calls Tryz.prog 75 #[.string s, .string ⟨#[45]⟩] w fun e w' => e = .returned (.tuple #[.string s, .bool false]) ∧ w' = w := by
  go_enter Tryz.func75, Tryz.ntmps75
  go_wp2
  go_ret2
  exact ⟨rfl, rfl⟩
set_option maxHeartbeats 400000 in
theorem cutPrefix_yes (s : ByteArray) (hs : 1 ≤ s.size) (h : ((s.extract 0 1).toList == [45]) = true) (w : World) : Calls Tryz.prog 75 #[.string s, .string ⟨#[45]⟩] w fun e w' => e = .returned (.tuple #[.string (s.extract 1 s.size), .bool true]) ∧ w' = w := by
  go_enter Tryz.func75, Tryz.ntmps75
  go_wp2
  go_ret2
  exact ⟨rfl, rfl⟩

theorem indexByte_run (s : ByteArray) (c : Int) (w : World) : (callFunc 101 #[.string s, .int .u8 c]).run Tryz.prog w = .ok (.value (.int .i64 (firstIdx s c.toNat.toUInt8))) w := by
  rw [run_callFunc_extern (e := Extern.BytealgIndexByte.indexByte) Tryz.func101 (by kernel_rfl) (by kernel_rfl) (by kernel_rfl) (by kernel_rfl), run_indexByte_string]
  rfl
theorem indexByte_calls (s : ByteArray) (c : Int) (w : World) : Calls Tryz.prog 73 #[.string s, .int .u8 c] w fun e w' => e = .returned (.int .i64 (firstIdx s c.toNat.toUInt8)) ∧ w' = w := by
  have hr := indexByte_run s c
  go_enter Tryz.func73, Tryz.ntmps73
  go_wp2
  go_ret
  exact ⟨rfl, rfl⟩
theorem u8_p : ((⟨#[112]⟩ : ByteArray)[0]'(by decide)) = 112 := by decide
theorem p_is (s : ByteArray) (h : ([112] == s.toList) = true) : firstIdx s 112 = 0 := by
  have e : s = ⟨#[112]⟩ := by
    have e1 : [112] = s.toList := by simpa using h
    have e2 : s.data.toList = [112] := by rw [e1, ByteArray.toList_eq]
    cases s with | mk d =>
      have : d = #[112] := by cases d; simp at e2; rw [e2]
      rw [this]
  subst e; decide
set_option maxHeartbeats 400000 in
theorem index_p (s : ByteArray) (w : World) : Calls Tryz.prog 192 #[.string s, .string ⟨#[112]⟩] w fun e w' => e = .returned (.int .i64 (firstIdx s 112)) ∧ w' = w := by
  cases hp : ([112] == s.toList)
  · go_enter Tryz.func192, Tryz.ntmps192
    go_wp2_with (go_at_call 73; refine (indexByte_calls _ _ _).mono ?_; rintro e w' ⟨rfl, rfl⟩)
    go_ret
    exact ⟨congrArg (fun c => Ending.returned (.int .i64 (firstIdx s c))) u8_p, rfl⟩
  · have h0 := p_is s hp
    rw [h0]
    clear h0
    go_enter Tryz.func192, Tryz.ntmps192
    go_wp2_with (go_at_call 73; refine (indexByte_calls _ _ _).mono ?_; rintro e w' ⟨rfl, rfl⟩)
    go_ret
    exact ⟨rfl, rfl⟩
set_option maxHeartbeats 400000 in
theorem cutIn_yes (s : ByteArray) (i : Nat) (hi : firstIdx s 112 = (i : Int)) (hs : i + 1 ≤ s.size) (hm : s.size ≤ 9223372036854775807) (w : World) : Calls Tryz.prog 209 #[.string s, .string ⟨#[112]⟩] w fun e w' => e = .returned (.tuple #[.string (s.extract 0 i), .string (s.extract (i + 1) s.size), .bool true]) ∧ ∃ n, w' = w.drewN n := by
  go_enter Tryz.func209, Tryz.ntmps209
  go_wp2_with (go_at_call 192; refine (index_p _ _).mono ?_; rintro e w' ⟨rfl, rfl⟩)
  go_quiet (fail)
  go_wp2
  go_ret3
  exact ⟨rfl, _, rfl⟩
set_option maxHeartbeats 400000 in
theorem cutIn_no (s : ByteArray) (hi : firstIdx s 112 = -1) (w : World) : Calls Tryz.prog 209 #[.string s, .string ⟨#[112]⟩] w fun e w' => e = .returned (.tuple #[.string s, .string ⟨#[]⟩, .bool false]) ∧ w' = w := by
  go_enter Tryz.func209, Tryz.ntmps209
  go_wp2_with (go_at_call 192; refine (index_p _ _).mono ?_; rintro e w' ⟨rfl, rfl⟩)
  go_ret3
  exact ⟨rfl, rfl⟩
set_option maxHeartbeats 400000 in
theorem cut_yes (s : ByteArray) (i : Nat) (hi : firstIdx s 112 = (i : Int)) (hs : i + 1 ≤ s.size) (hm : s.size ≤ 9223372036854775807) (w : World) : Calls Tryz.prog 193 #[.string s, .string ⟨#[112]⟩] w fun e w' => e = .returned (.tuple #[.string (s.extract 0 i), .string (s.extract (i + 1) s.size), .bool true]) ∧ ∃ n, w' = w.drewN n := by
  go_enter Tryz.func193, Tryz.ntmps193
  go_wp2_with (go_at_call 209; refine (cutIn_yes s i hi hs hm _).mono ?_; rintro e w' ⟨rfl, n, rfl⟩)
  go_ret3
  exact ⟨rfl, _, rfl⟩
set_option maxHeartbeats 400000 in
theorem cut_no (s : ByteArray) (hi : firstIdx s 112 = -1) (w : World) : Calls Tryz.prog 193 #[.string s, .string ⟨#[112]⟩] w fun e w' => e = .returned (.tuple #[.string s, .string ⟨#[]⟩, .bool false]) ∧ w' = w := by
  go_enter Tryz.func193, Tryz.ntmps193
  go_wp2_with (go_at_call 209; refine (cutIn_no s hi _).mono ?_; rintro e w' ⟨rfl, rfl⟩)
  go_ret3
  exact ⟨rfl, rfl⟩
end Go.Proofs.YtpgehocadohkiaaGreatDoor
end

section
namespace Go.Proofs.YtpgehocadohkiaaGreatDoor
open Go.RowKit

/-- a reader's block -/
def Rd (w : World) (B : Nat) (b : ByteArray) (p f : Int) : Prop := w.heap[B]? = some (.cells #[.string b, .int .i64 p, .int .i64 f] 127 (0, 0))

theorem Rd.c0 {w : World} {B : Nat} {b : ByteArray} {p f : Int} (h : Rd w B b p f) : w.cell? ⟨B, 0, none⟩ = some (.string b) := by unfold Rd at h; simp [World.cell?, h]
theorem Rd.c1 {w : World} {B : Nat} {b : ByteArray} {p f : Int} (h : Rd w B b p f) : w.cell? ⟨B, 1, none⟩ = some (.int .i64 p) := by unfold Rd at h; simp [World.cell?, h]
theorem Rd.c2 {w : World} {B : Nat} {b : ByteArray} {p f : Int} (h : Rd w B b p f) : w.cell? ⟨B, 2, none⟩ = some (.int .i64 f) := by unfold Rd at h; simp [World.cell?, h]
theorem Rd.z {w : World} {B : Nat} {b : ByteArray} {p f : Int} (h : Rd w B b p f) (k : Nat) : w.frozen? ⟨B, k, none⟩ = false := by unfold Rd at h; simp [World.frozen?, h]
theorem Rd.lt {w : World} {B : Nat} {b : ByteArray} {p f : Int} (h : Rd w B b p f) : B < w.heap.size := lt_of_block h
theorem Rd.drew {w : World} {B : Nat} {b : ByteArray} {p f : Int} (h : Rd w B b p f) (n : Nat) : Rd (w.drewN n) B b p f := h
theorem Rd.alloc {w : World} {B : Nat} {b : ByteArray} {p f : Int} (h : Rd w B b p f) (o : Obj) : Rd (w.alloc o) B b p f := by
  unfold Rd at *; rw [Below.heap_alloc w o B (lt_of_block h)]; exact h
theorem Rd.other {w : World} {B : Nat} {b : ByteArray} {p f : Int} (h : Rd w B b p f) (a : Addr) (u : Value) (hn : B ≠ a.block) : Rd (w.setCell a u) B b p f := by
  unfold Rd at *; rw [Below.heap_setCell w a u B hn]; exact h
theorem Rd.grown {w w' : World} {B : Nat} {b : ByteArray} {p f : Int} (h : Rd w B b p f) {r : Option Nat} (g : w.grownBy w' r) (hn : some B ≠ r) : Rd w' B b p f := by
  unfold Rd at *; rw [g.block B (lt_of_block h) hn]; exact h
theorem Rd.below {w w' : World} {B : Nat} {b : ByteArray} {p f : Int} (h : Rd w B b p f) {k : Nat} (g : Below k w w') (hn : B < k) : Rd w' B b p f := by
  unfold Rd at *; rw [g.block B hn]; exact h
theorem Rd.set1 {w : World} {B : Nat} {b : ByteArray} {p f q : Int} (h : Rd w B b p f) : Rd (w.setCell ⟨B, 1, none⟩ (.int .i64 q)) B b q f := by
  unfold Rd at *
  have hlt := lt_of_block h
  have h' : w.heap[B] = .cells #[.string b, .int .i64 p, .int .i64 f] 127 (0, 0) := by simpa [Array.getElem?_eq_getElem hlt] using h
  show (w.heap.modify B _)[B]? = _
  rw [Array.getElem?_eq_getElem (by simpa using hlt), Array.getElem_modify_self, h']
  rfl
theorem Rd.set2 {w : World} {B : Nat} {b : ByteArray} {p f q : Int} (h : Rd w B b p f) : Rd (w.setCell ⟨B, 2, none⟩ (.int .i64 q)) B b p q := by
  unfold Rd at *
  have hlt := lt_of_block h
  have h' : w.heap[B] = .cells #[.string b, .int .i64 p, .int .i64 f] 127 (0, 0) := by simpa [Array.getElem?_eq_getElem hlt] using h
  show (w.heap.modify B _)[B]? = _
  rw [Array.getElem?_eq_getElem (by simpa using hlt), Array.getElem_modify_self, h']
  rfl

set_option maxHeartbeats 400000 in
theorem left_any {w : World} {B : Nat} {b : ByteArray} {p f : Int} (h : Rd w B b p f) (hp0 : 0 ≤ p) (hp : p ≤ (b.size : Int)) (hb : b.size ≤ 140737488351232) :
    Calls Tryz.prog 54 #[.pointer (some ⟨B, 0, none⟩)] w fun e w' => e = .returned (.int .i64 ((b.size : Int) - p)) ∧ ∃ n, w' = w.drewN n := by
  have c0 := h.c0
  have c1 := h.c1
  go_enter Tryz.func54, Tryz.ntmps54
  go_wp2
  go_quiet (fail)
  go_wp2
  go_ret
  exact ⟨rfl, _, rfl⟩
end Go.Proofs.YtpgehocadohkiaaGreatDoor
end
