import Derived.Test.YtmogeegcfmphgaaGreatDoorTxG
import Derived.Test.YtmogeegcfmphgaaGreatDoorWalkJ
import Derived.Test.YtmogeegcfmphgaaGreatDoorFrame
namespace Go.Proofs.YtmogeegcfmphgaaGreatDoor
open Go.RowKit Go.ChangeAt

theorem tab64_below {a b : World} (h : Tab64 a) (k : Below a.heap.size a b) : Tab64 b := fun j hj => (k.cell (p := ⟨1, j, none⟩) (World.block_lt_of_cell? _ _ (h j hj))).trans (h j hj)
theorem zs64_is : ∀ j : Fin 64, zs64.getD j.val 0 = ((Lib.deBruijn64tab.getD j.val 0 : Nat) : Int) := by decide
theorem tab64_of {W : World} (h : laidMetH Tryz.prog laidL W) : Tab64 W := fun j hj => by
  have h64 : j < 64 := hj
  have h1 := (tab_of h).cell g64 j (show j < zs64.length from h64)
  rw [zs64_is ⟨j, h64⟩] at h1
  exact h1
theorem g10 : Tryz.prog.globalNamed "internal/strconv.uint64pow10" = some 2 := by kernel_rfl
theorem tab10_of {W : World} (h : laidMetH Tryz.prog laidL W) : Tab10 W := by
  rw [MakeChecks.laidMetH_plain _ _ _ (by kernel_rfl)] at h
  exact Lib.tabIs_of_head (zs := Lib.pow10Tab) g10 (by kernel_rfl) Tryz.underlying75 Tryz.underlying22 (by kernel_rfl) (by kernel_rfl) (laidMet.tail (laidMet.tail h))

set_option maxHeartbeats 400000 in
theorem numTexts_walk (a : Nat) (ha : a < 18446744073709551616) (w : World) (hT : TabC w) (h64 : Tab64 w) (h10 : Tab10 w) :
    Calls Tryz.prog 3 #[.int .u64 (a : Int)] w fun e w' => e = .returned (.bool true) ∧ Below w.heap.size w w' := by
  have HA := Lib.hid (awake_true w hT)
  have H64 := Lib.hid h64
  have H10 := Lib.hid h10
  have HR := Lib.hid (rtext_any a ha)
  have HT := Lib.hid (text_any a ha)
  clear hT h64 h10
  generalize textB a = s at *
  go_enter Tryz.func3, Tryz.ntmps3
  go_wp2_with fail
  refine HA.out.mono ?_
  rintro e w1 ⟨rfl, hb1⟩
  have HB1 := Lib.hid hb1
  clear hb1
  go_wp2_with fail
  refine (HT.out _ (tab64_below H64.out HB1.out) (tab10_below H10.out HB1.out)).mono ?_
  rintro e w2 ⟨rfl, hb2⟩
  have HB2 := Lib.hid (HB1.out.trans (hb2.mono HB1.out.size))
  clear hb2
  go_wp2_with fail
  refine (HR.out _).mono ?_
  rintro e w3 ⟨rfl, hb3⟩
  have HB3 := Lib.hid (HB2.out.trans (hb3.mono HB2.out.size))
  clear hb3
  go_wp2_with fail
  go_ret
  exact ⟨rfl, HB3.out⟩
end Go.Proofs.YtmogeegcfmphgaaGreatDoor
