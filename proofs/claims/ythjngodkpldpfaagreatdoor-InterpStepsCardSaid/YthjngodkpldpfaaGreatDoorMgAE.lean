import Derived.Test.YthjngodkpldpfaaGreatDoorMgAD
import Derived.Deep.QuietTactic
import Derived.BigQuiet

section
namespace Go.Proofs.YthjngodkpldpfaaGreatDoor
open Go.RowKit

abbrev str (l : Array UInt8) : Value := .string ⟨l⟩

theorem indexByte_run (s : ByteArray) (c : Int) (w : World) : (callFunc 143 #[.string s, .int .u8 c]).run Tryz.prog w = .ok (.value (.int .i64 (firstIdx s c.toNat.toUInt8))) w := by
  rw [run_callFunc_extern (e := Extern.BytealgIndexByte.indexByte) Tryz.func143 (by kernel_rfl) (by kernel_rfl) (by kernel_rfl) (by kernel_rfl), run_indexByte_string]
  rfl
theorem indexByte_calls (s : ByteArray) (c : Int) (w : World) : Calls Tryz.prog 135 #[.string s, .int .u8 c] w fun e w' => e = .returned (.int .i64 (firstIdx s c.toNat.toUInt8)) ∧ w' = w := by
  have hr := indexByte_run s c
  go_enter Tryz.func135, Tryz.ntmps135
  go_wp2
  go_ret
  exact ⟨rfl, rfl⟩
theorem u8_p : ((⟨#[112]⟩ : ByteArray)[0]'(by decide)) = 112 := by decide
theorem p_is (s : ByteArray) (h : ([112] == s.toList) = true) : firstIdx s 112 = 0 := by
  have e : s = ⟨#[112]⟩ := by
    have e1 : [112] = s.toList := by simpa using h
    have e2 : s.data.toList = [112] := by rw [e1, ByteArray.toList_eq]
    cases s with | mk d =>
      have : d = #[112] := by cases d; simp at e2; rw [e2]
      rw [this]
  subst e; decide
end Go.Proofs.YthjngodkpldpfaaGreatDoor
end
