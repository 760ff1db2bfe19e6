import Derived.Test.YtnhibcadenmglaaDkRg
namespace Go.Proofs.Ytnhibcadenmglaa
open Go.RowKit

set_option maxHeartbeats 400000 in
theorem rnew_no {w : World} {n : Int} (h : ¬ (1 ≤ n ∧ n ≤ 1026)) :
    Calls Try.prog 10 #[.int .i64 n] w fun e w' => e = .returned (.tuple #[.pointer none, .int .i64 40]) ∧ w' = w := by
  by_cases h0 : n < 1
  · have b0 : decide (n < 1) = true := by simp; omega
    clear h
    go_enter Try.func10, Try.ntmps10
    go_wp2
    go_ret2
    exact ⟨rfl, rfl⟩
  · have b0 : decide (n < 1) = false := by simp; omega
    have b1 : decide (1026 < n) = true := by simp; omega
    clear h h0
    go_enter Try.func10, Try.ntmps10
    go_wp2
    go_ret2
    exact ⟨rfl, rfl⟩

set_option maxHeartbeats 1000000 in
set_option maxRecDepth 8000 in
theorem diskDoes_walk {w : World} {z : Int} {ad3 : Option Addr} {ab3 ao3 cap3 : Nat} {Q : List OpV} (_ : -9223372036854775808 ≤ z ∧ z ≤ 9223372036854775807) (h3 : Ro w ad3 ab3 ao3 Q) (hQ : Q.length ≤ 5864062014634) :
    Calls Try.prog 3 #[.int .i64 z, .slice ad3 Q.length cap3] w fun e w' => e = .returned (.bool true) ∧ Below w.heap.size w w' := by
  by_cases hz : 1 ≤ z ∧ z ≤ 1026
  · obtain ⟨n, rfl⟩ : ∃ n : Nat, z = (n : Int) := ⟨z.toNat, by omega⟩
    have hn0 : 1 ≤ n := by omega
    have hn1 : n ≤ 1026 := by omega
    have HN := hide (new_any (w := w) hn0 hn1)
    have HN2 : Hid (∀ w1 : World, _) := fun w1 : World => rnew_yes (w := w1) hn0 hn1
    have HR0 : Hid ((fresh (List.replicate n zsec)).R.length ≤ 0) := Nat.le_refl 0
    generalize fresh (List.replicate n zsec) = D0 at *
    have H3 := hide h3
    clear hz h3
    go_enter Try.func3, Try.ntmps3
    go_wp2_with fail
    refine HN.out.mono ?_
    rintro e w1 ⟨b, F, rfl, hD1, hb1⟩
    have HD1 := hide hD1
    have HB1 := hide hb1
    have HN3 := hide (HN2.out w1)
    clear hD1 hb1 HN HN2
    go_wp2_with fail
    refine HN3.out.mono ?_
    rintro e w2 ⟨c, G, rfl, hR2, hb2⟩
    have HP : Hid (Pr w.heap.size w2 b c F G D0 D0) := ⟨HD1.out.below hb2, hR2.lower HB1.out.size, fun hf => absurd (HD1.out.ftlt _ hf).2 (by have := hR2.low; omega), fun k hk hg => absurd (HD1.out.ftlt k hk).2 (by have := (hR2.glt k hg).1; omega)⟩
    have HB2 := hide (HB1.out.trans (below_up hb2 HB1.out.size))
    clear hR2 hb2 HN3 HD1 HB1
    have HPL := hide (played_any (cap3 := cap3) HP.out HR0.out (H3.out.below HB2.out) (fun h0 => H3.out.lt h0) hQ)
    go_wp2_with (first
      | (go_at_call 11; refine HPL.out.mono ?_; rintro e w3 ⟨rfl, hb3⟩; have HB3 := hide (HB2.out.trans hb3); clear hb3)
      | (go_at_call 12; refine (fixed_true w3).mono ?_; rintro e w4 ⟨rfl, hb4⟩; have HB4 := hide (HB3.out.trans (below_up hb4 HB3.out.size)); clear hb4))
    go_ret
    exact ⟨rfl, HB4.out⟩
  · have HN := hide (new_no (w := w) hz)
    have HN2 := hide (rnew_no (w := w) hz)
    have HFX := hide (fixed_true w)
    clear h3
    go_enter Try.func3, Try.ntmps3
    go_wp2_with (first
      | (go_at_call 9; refine HN.out.mono ?_; rintro e w2 ⟨rfl, rfl⟩)
      | (go_at_call 10; refine HN2.out.mono ?_; rintro e w2 ⟨rfl, rfl⟩)
      | (go_at_call 12; refine HFX.out.mono ?_; rintro e w3 ⟨rfl, hb3⟩; have HB3 := hide hb3; clear hb3))
    go_ret
    exact ⟨rfl, HB3.out⟩
end Go.Proofs.Ytnhibcadenmglaa
