import Derived.Test.YtonoogiadgjodaaSeI
namespace Go.Proofs.Ytonoogiadgjodaa
open Go.RowKit

def mW : Sm := ⟨7, 5, 0, 0, 0, 0, 0, 0, 0, e0, e0⟩
def cA : Cl := newC 2
def cB : Cl := { cA with se := 0, m := zS 1, ti := 0 }
def cC : Cl := { cB with ti := 2 }
def cD : Cl := { cC with se := 5, gr := 5, la := 0, m := zS 0, ti := 0 }
theorem cA_ask : cA.ask (zS 2) = ⟨132, cA⟩ := rfl
theorem cA_hello : cA.hello = ⟨0, cB⟩ := rfl
theorem cB_hello : cB.hello = ⟨131, cB⟩ := rfl
theorem cB_due : cB.due = ⟨zS 1, true, cC⟩ := rfl
theorem cC_hear : cC.hear mW = ⟨1, cD⟩ := rfl
def dA : List Dk := [dk0, dk0]
def dB : List Dk := [⟨0, 1, 5, 0, e0⟩, dk0]
theorem dA_open : tOpen dA 0 1 5 = ⟨0, dB⟩ := rfl
theorem dB_hello : tHello dB 0 1 = (1, 5) := by decide +kernel
theorem dB_ask : tAsk dB 0 1 5 1 = (3, e0) := by decide +kernel
set_option maxHeartbeats 4000000 in
set_option maxRecDepth 8000 in
theorem awake_any (w : World) : Calls Try.prog 10 #[] w fun e w' => e = .returned (.bool true) ∧ Below w.heap.size w w' := by
  go_enter Try.func10, Try.ntmps10
  go_wp2_with fail
  refine (cnew_any w (x := 2) (by decide)).mono ?_
  rintro e w1 (⟨h, _⟩ | ⟨_, rfl, hC1, hB1⟩)
  · exact absurd (by decide) h
  obtain ⟨bc, hbc⟩ : ∃ bc, w.heap.size = bc := ⟨_, rfl⟩
  rw [show Value.pointer (some ⟨w.heap.size, 0, none⟩) = Value.pointer (some ⟨bc, 0, none⟩) by rw [hbc]]
  have HL : Hid (w.heap.size ≤ bc) := hide (by omega)
  rw [hbc] at hC1
  have HC := hide (show Cb w1 bc cA from hC1)
  have HB := hide hB1
  clear hbc hC1 hB1
  go_wp2_with fail
  refine (tnew_any w1 2).mono ?_
  rintro e w2 (⟨h, _⟩ | ⟨n, b, g, cap, hn, _, _, rfl, hT, hB2⟩)
  · exact absurd (by decide) h
  obtain rfl : n = 2 := by omega
  have HT := hide (show Tm 92 w.heap.size w2 b g cap dA from hT.wide HB.out.size)
  have HC := hide (HC.out.below hB2)
  have HB := hide (HB.out.trans (hB2.mono HB.out.size))
  clear hn hT hB2
  go_wp2_with fail
  refine (cnew_any w2 (x := 0) (by decide)).mono ?_
  rintro e w3 (⟨_, rfl, rfl⟩ | ⟨h, _⟩)
  rotate_left
  · exact absurd h (by decide)
  go_wp2_with fail
  refine (tnew_any w3 9).mono ?_
  rintro e w4 (⟨_, rfl, rfl⟩ | ⟨n, b, g, cap, hn, _, h8, _⟩)
  rotate_left
  · omega
  go_wp2_with fail
  refine (ask_any (newC_ok (by decide) (by decide)) HC.out (zS 2)).mono ?_
  rw [show (newC 2).ask (zS 2) = ⟨132, cA⟩ from rfl]
  rintro e w5 ⟨rfl, hC5, hO5⟩
  have HT := hide (HT.out.onC (by decide) HC.out hO5)
  have HC := hide hC5
  have HB := hide (HB.out.trans (hO5.below HL.out HB.out.size))
  clear hC5 hO5
  simp only at HC ⊢
  go_wp2_with fail
  refine (hello_any HC.out).mono ?_
  rw [cA_hello]
  rintro e w6 ⟨rfl, hC6, hO6⟩
  have HT := hide (HT.out.onC (by decide) HC.out hO6)
  have HC := hide hC6
  have HB := hide (HB.out.trans (hO6.below HL.out HB.out.size))
  clear hC6 hO6
  simp only at HC ⊢
  go_wp2_with fail
  refine (hello_any HC.out).mono ?_
  rw [cB_hello]
  rintro e w7 ⟨rfl, hC6, hO6⟩
  have HT := hide (HT.out.onC (by decide) HC.out hO6)
  have HC := hide hC6
  have HB := hide (HB.out.trans (hO6.below HL.out HB.out.size))
  clear hC6 hO6
  simp only at HC ⊢
  go_wp2_with fail
  refine (due_any HC.out).mono ?_
  rw [cB_due]
  rintro e w8 ⟨rfl, hC6, hO6⟩
  have HT := hide ((HT.out.onC (by decide) HC.out hO6).alloc (.cells #[.int .i64 1, .int .i64 0, .int .i64 0, .int .i64 0, .int .i64 0, .int .i64 0, .int .i64 0, .int .i64 0, .int .u64 0, .string ⟨#[]⟩, .string ⟨#[]⟩] 36))
  have HC := hide (hC6.alloc (.cells #[.int .i64 1, .int .i64 0, .int .i64 0, .int .i64 0, .int .i64 0, .int .i64 0, .int .i64 0, .int .i64 0, .int .u64 0, .string ⟨#[]⟩, .string ⟨#[]⟩] 36))
  have HB := hide ((HB.out.trans (hO6.below HL.out HB.out.size)).alloc (Nat.le_trans HB.out.size hO6.size) (.cells #[.int .i64 1, .int .i64 0, .int .i64 0, .int .i64 0, .int .i64 0, .int .i64 0, .int .i64 0, .int .i64 0, .int .u64 0, .string ⟨#[]⟩, .string ⟨#[]⟩] 36))
  have HM := hide (Mx.new w8 (zS 1))
  obtain ⟨X, hX⟩ : ∃ X, w8.heap.size = X := ⟨_, rfl⟩
  rw [hX] at HM
  clear hC6 hO6
  simp only [smC, zS, e0] at HC HM ⊢
  go_wp2_with fail
  clear hX
  generalize w8.alloc (.cells #[.int .i64 1, .int .i64 0, .int .i64 0, .int .i64 0, .int .i64 0, .int .i64 0, .int .i64 0, .int .i64 0, .int .u64 0, .string ⟨#[]⟩, .string ⟨#[]⟩] 36) = w9 at *
  refine (hear_any (c := cC) ⟨by decide, by decide, by decide, by decide, by decide, by decide, by decide, by decide, by decide, by decide, .inl ⟨.inr rfl, rfl⟩⟩ HC.out mW).mono ?_
  rw [cC_hear]
  rintro e wa ⟨rfl, hC6, hO6⟩
  have HT := hide (HT.out.onC (by decide) HC.out hO6)
  have HM : Hid (Mx wa X (zS 1)) := hide (Mx.on (c := zS 1) HM.out hO6 (blk_ne HM.out HC.out (by decide)))
  have HC := hide hC6
  have HB := hide (HB.out.trans (hO6.below HL.out HB.out.size))
  clear hC6 hO6
  simp only at HC ⊢
  go_wp2_with fail
  refine (topen_any HT.out 0 1 5).mono ?_
  rw [dA_open]
  rintro e wb ⟨rfl, hT6, hO6⟩
  have HC := hide (HC.out.onT HT.out hO6)
  have HM : Hid (Mx wb X (zS 1)) := hide (Mx.on HM.out hO6 (by obtain ⟨cs, hcs⟩ := own_blk HT.out.row (k := g) rfl; exact blk_ne HM.out hcs (by decide)))
  have HB := hide (HB.out.trans (hO6.below HT.out.gB HB.out.size))
  have HT := hide hT6
  clear hT6 hO6
  simp only at HT ⊢
  go_wp2_with fail
  refine (thello_any HT.out 0 1).mono ?_
  rw [dB_hello]
  rintro e wc ⟨rfl, hB6⟩
  have HC := hide (HC.out.below hB6)
  have HM := hide (HM.out.below hB6)
  have HT := hide (HT.out.below hB6)
  have HB := hide (HB.out.trans (hB6.mono HB.out.size))
  clear hB6
  simp only at HT ⊢
  go_wp2_with fail
  refine (task_any HT.out (D := dB) (by
    intro i d h
    match i, h with
    | 0, h => injection h with h; subst h; decide
    | 1, h => injection h with h; subst h; decide
    | i + 2, h => cases h) 0 1 5 1).mono ?_
  rw [dB_ask]
  rintro e wd ⟨rfl, hB6⟩
  have HC := hide (HC.out.below hB6)
  have HM := hide (HM.out.below hB6)
  have HB := hide (HB.out.trans (hB6.mono HB.out.size))
  clear hB6 HT
  simp only [e0] at HC ⊢
  have k0 := HM.out.cells.1
  rw [show (zS 1).k = 1 from rfl] at k0
  have HSe := hide (sess_any HC.out)
  have HBu := hide (busy_any HC.out)
  rw [show cD.se = 5 from rfl] at HSe
  rw [show (cD.m.k != 0) = false from rfl] at HBu
  clear HC HM
  go_wp2_with fail
  refine HSe.out.mono ?_
  rintro e we ⟨rfl, rfl⟩
  go_wp2_with fail
  refine HBu.out.mono ?_
  rintro e we ⟨rfl, rfl⟩
  go_wp2_with fail
  go_ret
  exact ⟨rfl, HB.out⟩
end Go.Proofs.Ytonoogiadgjodaa
