import Derived.Test.YtabenedaeaocbaaPkO
namespace Go.Proofs.Ytabenedaeaocbaa
open Go.RowKit

set_option maxHeartbeats 1000000 in
theorem names_true (w : World) : Calls Try.prog 10 #[] w fun e w' => e = .returned (.bool true) ∧ Below w.heap.size w w' := by
  go_enter Try.func10, Try.ntmps10
  go_wp2_with fail
  refine (read_any ⟨#[5]⟩ w).mono ?_
  rintro e w1 ⟨rfl, hR1, hb1⟩
  go_wp2_with fail
  refine (known_true w1).mono ?_
  rintro e w2 ⟨rfl, hb2⟩
  have hR2 := hR1.below hb2 hR1.lt
  have hb02 := below_tr hb1 hb2
  clear hb1 hb2 hR1
  have HE : Hid (Calls Try.prog 20 #[.pointer (some ⟨w.heap.size, 0, none⟩)] w2 fun e w' => e = .returned (.tuple #[.int .i64 24, .int .i64 0]) ∧ ∃ n, w' = w2.drewN n) := end_any hR2 (by decide) (by decide) (by decide)
  go_wp2_with fail
  refine HE.out.mono ?_
  rintro e w3 ⟨rfl, n3, rfl⟩
  have hb03 := below_dn hb02 n3
  clear HE hb02
  go_wp2_with fail
  refine (rnum_5 (hR2.drew n3)).mono ?_
  rintro e w4 ⟨rfl, hR4, hg4⟩
  have hb04 := below_of_grown hb03 (Nat.le_refl _) hg4
  clear hR2 hb03 hg4
  have HF : Hid (Calls Try.prog 19 #[.pointer (some ⟨w.heap.size, 0, none⟩)] w4 fun e w' => e = .returned (.tuple #[.int .i64 21, .int .i64 0]) ∧ ∃ n, w' = w4.drewN n) := fault_any hR4
  go_wp2_with fail
  refine HF.out.mono ?_
  rintro e w5 ⟨rfl, n5, rfl⟩
  clear HF
  go_wp2_with fail
  go_ret
  exact ⟨rfl, below_dn hb04 _⟩

set_option maxHeartbeats 1000000 in
theorem awake_true (w : World) : Calls Try.prog 5 #[] w fun e w' => e = .returned (.bool true) ∧ Below w.heap.size w w' := by
  go_enter Try.func5, Try.ntmps5
  go_wp2_with fail
  refine (known_true _).mono ?_
  rintro e w1 ⟨rfl, hb1⟩
  go_wp2_with fail
  refine (names_true _).mono ?_
  rintro e w2 ⟨rfl, hb2⟩
  go_wp2_with fail
  go_ret
  exact ⟨rfl, below_tr hb1 hb2⟩
end Go.Proofs.Ytabenedaeaocbaa
