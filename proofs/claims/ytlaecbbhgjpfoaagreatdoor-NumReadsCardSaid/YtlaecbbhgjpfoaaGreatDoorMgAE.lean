import Derived.Test.YtlaecbbhgjpfoaaGreatDoorMgAD
import Derived.Deep.QuietTactic
import Derived.BigQuiet

section
namespace Go.Proofs.YtlaecbbhgjpfoaaGreatDoor
open Go.RowKit

abbrev str (l : Array UInt8) : Value := .string ⟨l⟩

set_option maxHeartbeats 400000 in
theorem isWhole_5 (w : World) : Calls Tryz.prog 50 #[.string ⟨#[53]⟩] w fun e w' => e = .returned (.bool true) ∧ w' = w := by
  go_enter Tryz.func50, Tryz.ntmps50
  go_wp2
  refine wp_loop_rounds 2 ?_
  rw [rounds_succ]
  go_wp2
  rw [rounds_succ]
  go_wp2
  go_ret
  exact ⟨rfl, rfl⟩
set_option maxHeartbeats 400000 in
theorem isWhole_1024 (w : World) : Calls Tryz.prog 50 #[.string ⟨#[49, 48, 50, 52]⟩] w fun e w' => e = .returned (.bool true) ∧ w' = w := by
  go_enter Tryz.func50, Tryz.ntmps50
  go_wp2
  refine wp_loop_rounds 5 ?_
  rw [rounds_succ]
  go_wp2
  rw [rounds_succ]
  go_wp2
  rw [rounds_succ]
  go_wp2
  rw [rounds_succ]
  go_wp2
  rw [rounds_succ]
  go_wp2
  go_ret
  exact ⟨rfl, rfl⟩
set_option maxHeartbeats 400000 in
theorem cutPrefix_none (s : ByteArray) (h : s.size = 0) (w : World) : Calls Tryz.prog 7 #[.string s, .string ⟨#[45]⟩] w fun e w' => e = .returned (.tuple #[.string s, .bool false]) ∧ w' = w := by
  have h1 : ¬ ((1 : Int) ≤ (s.size : Int)) := by omega
  go_enter Tryz.func7, Tryz.ntmps7
  go_wp2
  go_ret2
  exact ⟨rfl, rfl⟩
set_option maxHeartbeats 400000 in
theorem cutPrefix_no (s : ByteArray) (hs : 1 ≤ s.size) (h : ((s.extract 0 1).toList == [45]) = false) (w : World) : Calls Tryz.prog 7 #[.string s, .string ⟨#[45]⟩] w fun e w' => e = .returned (.tuple #[.string s, .bool false]) ∧ w' = w := by
  go_enter Tryz.func7, Tryz.ntmps7
  go_wp2
  go_ret2
  exact ⟨rfl, rfl⟩
set_option maxHeartbeats 400000 in
theorem cutPrefix_yes (s : ByteArray) (hs : 1 ≤ s.size) (h : ((s.extract 0 1).toList == [45]) = true) (w : World) : Calls Tryz.prog 7 #[.string s, .string ⟨#[45]⟩] w fun e w' => e = .returned (.tuple #[.string (s.extract 1 s.size), .bool true]) ∧ w' = w := by
  go_enter Tryz.func7, Tryz.ntmps7
  go_wp2
  go_ret2
  exact ⟨rfl, rfl⟩

theorem indexByte_run (s : ByteArray) (c : Int) (w : World) : (callFunc 95 #[.string s, .int .u8 c]).run Tryz.prog w = .ok (.value (.int .i64 (firstIdx s c.toNat.toUInt8))) w := by
  rw [run_callFunc_extern (e := Extern.BytealgIndexByte.indexByte) Tryz.func95 (by kernel_rfl) (by kernel_rfl) (by kernel_rfl) (by kernel_rfl), run_indexByte_string]
  rfl
theorem indexByte_calls (s : ByteArray) (c : Int) (w : World) : Calls Tryz.prog 84 #[.string s, .int .u8 c] w fun e w' => e = .returned (.int .i64 (firstIdx s c.toNat.toUInt8)) ∧ w' = w := by
  have hr := indexByte_run s c
  go_enter Tryz.func84, Tryz.ntmps84
  go_wp2
  go_ret
  exact ⟨rfl, rfl⟩
theorem u8_p : ((⟨#[112]⟩ : ByteArray)[0]'(by decide)) = 112 := by decide
theorem p_is (s : ByteArray) (h : ([112] == s.toList) = true) : firstIdx s 112 = 0 := by
  have e : s = ⟨#[112]⟩ := by
    have e1 : [112] = s.toList := by simpa using h
    have e2 : s.data.toList = [112] := by rw [e1, ByteArray.toList_eq]
    cases s with | mk d =>
      have : d = #[112] := by cases d; simp at e2; rw [e2]
      rw [this]
  subst e; decide
set_option maxHeartbeats 400000 in
theorem index_p (s : ByteArray) (w : World) : Calls Tryz.prog 64 #[.string s, .string ⟨#[112]⟩] w fun e w' => e = .returned (.int .i64 (firstIdx s 112)) ∧ w' = w := by
  cases hp : ([112] == s.toList)
  · go_enter Tryz.func64, Tryz.ntmps64
    go_wp2_with (go_at_call 84; refine (indexByte_calls _ _ _).mono ?_; rintro e w' ⟨rfl, rfl⟩)
    go_ret
    exact ⟨congrArg (fun c => Ending.returned (.int .i64 (firstIdx s c))) u8_p, rfl⟩
  · have h0 := p_is s hp
    rw [h0]
    clear h0
    go_enter Tryz.func64, Tryz.ntmps64
    go_wp2_with (go_at_call 84; refine (indexByte_calls _ _ _).mono ?_; rintro e w' ⟨rfl, rfl⟩)
    go_ret
    exact ⟨rfl, rfl⟩
set_option maxHeartbeats 400000 in
theorem cutIn_yes (s : ByteArray) (i : Nat) (hi : firstIdx s 112 = (i : Int)) (hs : i + 1 ≤ s.size) (hm : s.size ≤ 9223372036854775807) (w : World) : Calls Tryz.prog 49 #[.string s, .string ⟨#[112]⟩] w fun e w' => e = .returned (.tuple #[.string (s.extract 0 i), .string (s.extract (i + 1) s.size), .bool true]) ∧ ∃ n, w' = w.drewN n := by
  go_enter Tryz.func49, Tryz.ntmps49
  go_wp2_with (go_at_call 64; refine (index_p _ _).mono ?_; rintro e w' ⟨rfl, rfl⟩)
  go_quiet (fail)
  go_wp2
  go_ret3
  exact ⟨rfl, _, rfl⟩
set_option maxHeartbeats 400000 in
theorem cutIn_no (s : ByteArray) (hi : firstIdx s 112 = -1) (w : World) : Calls Tryz.prog 49 #[.string s, .string ⟨#[112]⟩] w fun e w' => e = .returned (.tuple #[.string s, .string ⟨#[]⟩, .bool false]) ∧ w' = w := by
  go_enter Tryz.func49, Tryz.ntmps49
  go_wp2_with (go_at_call 64; refine (index_p _ _).mono ?_; rintro e w' ⟨rfl, rfl⟩)
  go_ret3
  exact ⟨rfl, rfl⟩
set_option maxHeartbeats 400000 in
theorem cut_yes (s : ByteArray) (i : Nat) (hi : firstIdx s 112 = (i : Int)) (hs : i + 1 ≤ s.size) (hm : s.size ≤ 9223372036854775807) (w : World) : Calls Tryz.prog 15 #[.string s, .string ⟨#[112]⟩] w fun e w' => e = .returned (.tuple #[.string (s.extract 0 i), .string (s.extract (i + 1) s.size), .bool true]) ∧ ∃ n, w' = w.drewN n := by
  go_enter Tryz.func15, Tryz.ntmps15
  go_wp2_with (go_at_call 49; refine (cutIn_yes s i hi hs hm _).mono ?_; rintro e w' ⟨rfl, n, rfl⟩)
  go_ret3
  exact ⟨rfl, _, rfl⟩
set_option maxHeartbeats 400000 in
theorem cut_no (s : ByteArray) (hi : firstIdx s 112 = -1) (w : World) : Calls Tryz.prog 15 #[.string s, .string ⟨#[112]⟩] w fun e w' => e = .returned (.tuple #[.string s, .string ⟨#[]⟩, .bool false]) ∧ w' = w := by
  go_enter Tryz.func15, Tryz.ntmps15
  go_wp2_with (go_at_call 49; refine (cutIn_no s hi _).mono ?_; rintro e w' ⟨rfl, rfl⟩)
  go_ret3
  exact ⟨rfl, rfl⟩
end Go.Proofs.YtlaecbbhgjpfoaaGreatDoor
end
