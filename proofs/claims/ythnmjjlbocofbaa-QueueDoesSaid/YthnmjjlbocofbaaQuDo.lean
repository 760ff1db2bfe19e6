import Derived.Test.YthnmjjlbocofbaaQuPe
namespace Go.Proofs.Ythnmjjlbocofbaa
open Go.RowKit

set_option maxHeartbeats 4000000 in
set_option maxRecDepth 8000 in
theorem queueDoes_walk {w : World} {x : Int} (_ : -9223372036854775808 ≤ x ∧ x ≤ 9223372036854775807) {ad : Option Addr} {ab ao cap : Nat} {Q : List Rr} (hQ : Rs w ad ab ao Q) (hQl : Q.length ≤ 2199023255488) (hj : ∀ i (h : i < Q.length), -9223372036854775808 ≤ (Q[i]).job ∧ (Q[i]).job ≤ 9223372036854775807) :
    Calls Try.prog 3 #[.int .i64 x, .slice ad Q.length cap] w fun e w' => e = .returned (.bool true) ∧ Below w.heap.size w w' := by
  have HN := hide (qnew_any w x)
  have HS := hide hQ
  have HJ := hide hj
  have hlt := hQ.lt
  clear hQ hj
  go_enter Try.func3, Try.ntmps3
  go_wp2_with fail
  refine HN.out.mono ?_
  rintro e w1 (⟨h, rfl, hB1⟩ | ⟨b, v, hk, rfl, hq, hB1⟩)
  · have HB1 := hide hB1
    clear HN hB1
    go_wp2_with fail
    refine (rnew_any _ x).mono ?_
    rintro e w2 (⟨_, rfl, rfl⟩ | ⟨h1, h8, _, _, _⟩)
    · clear h
      go_wp2_with fail
      refine (fixed_any _).mono ?_
      rintro e w2 ⟨rfl, hB2⟩
      go_wp2_with fail
      go_ret
      exact ⟨rfl, HB1.out.trans (hB2.mono HB1.out.size)⟩
    · exact absurd ⟨h1, h8⟩ h
  · have HK := hide hk
    have HB1 := hide hB1
    have HQ := hide hq
    clear HN hk hB1 hq
    go_wp2_with fail
    refine (rnew_any _ x).mono ?_
    rintro e w2 (⟨hn, _, _⟩ | ⟨h1, h8, rfl, hX2, hB2⟩)
    · exact absurd ⟨HK.out.m1, HK.out.m8⟩ hn
    have HX2 := hide hX2
    have HB2 := hide (HB1.out.trans (hB2.mono HB1.out.size))
    have HQ2 := hide (HQ.out.below hB2)
    clear hX2 hB2 HQ
    go_wp2_with fail
    refine (played_any (B := w.heap.size) ⟨HQ2.out, HX2.out, HK.out, fun h0 => absurd h0 (by simp)⟩ HB1.out.size HB2.out.size (HS.out.below HB2.out) hlt hQl HJ.out).mono ?_
    rintro e w3 ⟨rfl, hB3⟩
    have HB3 := hide (HB2.out.trans hB3)
    clear hB3 HX2 HQ2
    go_wp2_with fail
    refine (fixed_any _).mono ?_
    rintro e w4 ⟨rfl, hB4⟩
    go_wp2_with fail
    go_ret
    exact ⟨rfl, HB3.out.trans (hB4.mono HB3.out.size)⟩
end Go.Proofs.Ythnmjjlbocofbaa
