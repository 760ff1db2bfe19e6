import Derived.Test.YtlaecbbhgjpfoaaGreatDoorMgAQ
import Derived.Test.YtlaecbbhgjpfoaaGreatDoorMgAJ
import Derived.Test.YtlaecbbhgjpfoaaGreatDoorMgAL

section
namespace Go.Proofs.YtlaecbbhgjpfoaaGreatDoor
open Go.RowKit Go.ChangeAt

set_option maxHeartbeats 1000000 in
theorem numReads_walk (s : ByteArray) (hs : s.size ≤ 9223372036854775807) (w : World) (hT : TabC w) :
    Calls Tryz.prog 3 #[.string s] w fun e w' => e = .returned (.bool true) ∧ Below w.heap.size w w' := by
  have HP := Lib.hid (fun W => parse_any s hs W)
  have HR := Lib.hid (fun W => rparse_any s hs W)
  have HT := Lib.hid hT
  generalize parseP s = r at *
  obtain ⟨a, f⟩ := r
  have b1 : ((a : Int) == (a : Int)) = true := by simp
  have b2 : (f == f) = true := by simp
  clear hT
  go_enter Tryz.func3, Tryz.ntmps3
  go_wp2_with fail
  refine (HP.out _).mono ?_
  rintro e w1 ⟨rfl, hb1⟩
  have HB1 := Lib.hid hb1
  clear hb1
  go_wp2_with fail
  refine (HR.out _).mono ?_
  rintro e w2 ⟨rfl, hb2⟩
  have HB2 := Lib.hid (HB1.out.trans (hb2.mono HB1.out.size))
  clear hb2
  go_wp2_with fail
  refine (awake_true _ (tab_below HT.out (tab_size HT.out) HB2.out)).mono ?_
  rintro e w3 ⟨rfl, hb3⟩
  have HB3 := Lib.hid (HB2.out.trans (hb3.mono HB2.out.size))
  clear hb3
  go_wp2_with fail
  go_ret
  exact ⟨rfl, HB3.out⟩
end Go.Proofs.YtlaecbbhgjpfoaaGreatDoor
end
