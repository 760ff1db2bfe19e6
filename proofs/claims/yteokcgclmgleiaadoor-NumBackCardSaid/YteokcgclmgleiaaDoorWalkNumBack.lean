import Derived.Test.YteokcgclmgleiaaDoorPsK
import Derived.Test.YteokcgclmgleiaaDoorTxD
import Derived.Test.YteokcgclmgleiaaDoorWalkJ
import Derived.Test.YteokcgclmgleiaaDoorFrame
import Derived.Deep.DeepCutAuto
import Derived.Deep.CutBlock
namespace Go.Proofs.YteokcgclmgleiaaDoor
open Go.RowKit Go.ChangeAt

theorem tab64_below {a b : World} (h : Tab64 a) (k : Below a.heap.size a b) : Tab64 b := fun j hj => (k.cell (p := ⟨1, j, none⟩) (World.block_lt_of_cell? _ _ (h j hj))).trans (h j hj)
theorem zs64_is : ∀ j : Fin 64, zs64.getD j.val 0 = ((Lib.deBruijn64tab.getD j.val 0 : Nat) : Int) := by decide
theorem tab64_of {W : World} (h : laidMetH Tryd.prog laidL W) : Tab64 W := fun j hj => by
  have h64 : j < 64 := hj
  have h1 := (tab_of h).cell g64 j (show j < zs64.length from h64)
  rw [zs64_is ⟨j, h64⟩] at h1
  exact h1
theorem g10 : Tryd.prog.globalNamed "internal/strconv.uint64pow10" = some 5 := by kernel_rfl
theorem tab10_of {W : World} (h : laidMetH Tryd.prog laidL W) : Tab10 W := by
  rw [MakeChecks.laidMetH_plain _ _ _ (by kernel_rfl)] at h
  exact Lib.tabIs_of_head (zs := Lib.pow10Tab) g10 (by kernel_rfl) Tryd.underlying94 Tryd.underlying22 (by kernel_rfl) (by kernel_rfl) (laidMet.tail (laidMet.tail h))

theorem text_size (a : Nat) : (textB a).size ≤ 9223372036854775807 := by
  unfold textB
  split
  · have := amt_size (Gn.canonW a); omega
  · rw [ByteArray.size_append]
    have := amt_size (Gn.canonW a % 9223372036854775808)
    have h1 : (⟨#[45]⟩ : ByteArray).size = 1 := by decide
    omega
set_option maxHeartbeats 1000000 in
set_option maxRecDepth 8000 in
theorem numBack_walk (a : Nat) (ha : a < 18446744073709551616) (s : ByteArray) (hs : s.size ≤ 9223372036854775807) (w : World) (hT : TabC w) (h64 : Tab64 w) (h10 : Tab10 w) :
    Calls Tryd.prog 3 #[.int .u64 (a : Int), .string s] w fun e w' => e = .returned (.bool true) ∧ Below w.heap.size w w' := by
  have HTC := Lib.hid hT
  have H64 := Lib.hid h64
  have H10 := Lib.hid h10
  have HTx := Lib.hid (text_any a ha)
  have HCa := Lib.hid (canon_any a ha)
  have HP1 : Hid (∀ w : World, Calls Tryd.prog 5 #[.string (textB a)] w fun e w' => e = .returned (.tuple #[.int .u64 (Gn.canonW a : Int), .int .i64 0]) ∧ Below w.heap.size w w') := fun w => by
    have := parse_any (textB a) (text_size a) w
    rw [parse_there a ha] at this
    exact this
  have HP2 := Lib.hid (parse_any s hs)
  have HBk : Hid ((parseP s).2 = 0 → ∀ w, Tab64 w → Tab10 w → Calls Tryd.prog 6 #[.int .u64 ((parseP s).1 : Int)] w fun e w' => e = .returned (.string s) ∧ Below w.heap.size w w') := fun hz w k1 k2 => by
    obtain ⟨p1, p2⟩ := parse_back hz
    have := text_any (parseP s).1 p1 w k1 k2
    rw [p2] at this
    exact this
  clear hT h64 h10 ha hs
  generalize Gn.canonW a = x at *
  generalize textB a = t at *
  generalize (parseP s).1 = c at *
  generalize (parseP s).2 = f at *
  go_enter Tryd.func3, Tryd.ntmps3
  go_wp2_with fail
  refine (HTx.out _ H64.out H10.out).mono ?_
  rintro e w1 ⟨rfl, hb1⟩
  have HB1 := Lib.hid hb1
  clear hb1
  go_wp2_with fail
  refine (HP1.out _).mono ?_
  rintro e w2 ⟨rfl, hb2⟩
  have HB2 := Lib.hid (HB1.out.trans (hb2.mono HB1.out.size))
  clear hb2
  go_wp2_with fail
  refine (awake_true _ (tab_below HTC.out (tab_size HTC.out) HB2.out)).mono ?_
  rintro e w3 ⟨rfl, hb3⟩
  have HB3 := Lib.hid (HB2.out.trans (hb3.mono HB2.out.size))
  clear hb3
  go_wp2_with fail
  refine (HCa.out _).mono ?_
  rintro e w4 ⟨rfl, e4⟩
  subst e4
  go_wp2_with fail
  refine (HP2.out _).mono ?_
  rintro e w5 ⟨rfl, hb5⟩
  have HB5 := Lib.hid (HB3.out.trans (hb5.mono HB3.out.size))
  clear hb5
  by_cases hf : f = 0
  · have HBk2 := Lib.hid (HBk.out hf)
    have hf' := hf.symm
    subst hf'
    go_wp2_with fail
    refine (HBk2.out _ (tab64_below H64.out HB5.out) (tab10_below H10.out HB5.out)).mono ?_
    rintro e w6 ⟨rfl, hb6⟩
    have HB6 := Lib.hid (HB5.out.trans (hb6.mono HB5.out.size))
    clear hb6
    go_wp2_with fail
    go_ret
    exact ⟨rfl, HB6.out⟩
  · have hn : (f == 0) = false := beq_eq_false_iff_ne.mpr hf
    go_wp2_with fail
    go_ret
    exact ⟨rfl, HB5.out⟩
end Go.Proofs.YteokcgclmgleiaaDoor
