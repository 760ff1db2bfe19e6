import Derived.Test.YtonoogiadgjodaaSoL
import Derived.Test.YtonoogiadgjodaaSeX
namespace Go.Proofs.Ytonoogiadgjodaa
open Go.RowKit

theorem Tm.base {T B B' : Nat} {w : World} {b g cap : Nat} {D : List Dk} (h : Tm T B w b g cap D) (hb : B' ≤ B) : Tm T B' w b g cap D := ⟨h.hb, own_base h.row hb, Nat.le_trans hb h.low, h.n8⟩
def j00 : Jt := ⟨newC 2, dk0, 1, 0, 0, [], []⟩
theorem inv00 : Inv (fun _ => 0) 0 j00 :=
  ⟨Int.le_refl _, by decide, newC_ok (by decide) (by decide), Int.le_refl _, Int.le_refl _, Int.le_refl _, Int.le_refl _, Int.le_refl _, Int.le_refl _, Int.le_refl _, Int.le_refl _, Int.le_refl _, Int.le_refl _, fun e => absurd rfl e, fun e => absurd e (by show ¬ (2 : Int) ≤ 0; decide), fun e => absurd e (by show ¬ (0 : Int) = 1; decide), fun s h1 h2 => by have h2 : s ≤ 0 := h2; omega, ⟨Int.le_refl _, by show (0 : Int) ≤ _; decide, Int.le_refl _, by show (0 : Int) ≤ _; decide, Int.le_refl _, Int.le_refl _⟩, fun e => absurd rfl e, fun x hx => absurd hx (by simp [j00]), fun d hd => absurd hd (by simp [j00])⟩
theorem Sr.two {w : World} {ad : Option Addr} {ab ao : Nat} {L : List Ac} (h : Sr Ac.cs 2 w ad ab ao L) {i : Nat} (hi : i < L.length) :
    w.cell? ⟨ab, ao + i * 2, none⟩ = some (.int .i64 (L[i]).k) ∧ w.cell? ⟨ab, ao + i * 2 + 1, none⟩ = some (.int .i64 (L[i]).n) := ⟨h.c i hi 0 (by decide), h.c i hi 1 (by decide)⟩
/-- all that stands at a round's head -/
structure Ow (w0 : World) (a : Nat) (own : Int → Int) (N : Int) (A : Ja) (j : Jt) (w : World) : Prop where
  a : A.a = a
  inv : Inv own N j
  jm : Jm w0.heap.size w A j
  bel : Below w0.heap.size w0 w
theorem Ow.c7 {w0 w : World} {a : Nat} {own : Int → Int} {N : Int} {A : Ja} {j : Jt} (h : Ow w0 a own N A j w) : w.cell? ⟨a, 7, none⟩ = some (.bool false) := by rw [← h.a]; exact h.jm.cells.2.2.2.2.2.2.2
theorem Ow.alt {w0 w : World} {a : Nat} {own : Int → Int} {N : Int} {A : Ja} {j : Jt} (h : Ow w0 a own N A j w) : a < w.heap.size := by rw [← h.a]; exact h.jm.lt
set_option maxHeartbeats 4000000 in
set_option maxRecDepth 8000 in
theorem sessionOnce_walk {w : World} {ad : Option Addr} {ab ao cap : Nat} {Q : List Ac} (hQ : Sr Ac.cs 2 w ad ab ao Q) (hQl : Q.length ≤ 8796093021952) (_hQb : ∀ i (h : i < Q.length), I6 (Q[i]).n) :
    Calls Try.prog 5 #[.slice ad Q.length cap] w fun e w' => e = .returned (.bool true) ∧ Below w.heap.size w w' := by
  have HQ := hide hQ
  clear hQ _hQb
  go_enter Try.func5, Try.ntmps5
  go_wp2_with fail
  refine (awake_any _).mono ?_
  rintro e w1 ⟨rfl, hB1⟩
  have HB1 := hide hB1
  clear hB1
  by_cases hl : 1048576 < Q.length
  · have hl2 : decide ((1048576 : Int) < (Q.length : Int)) = true := decide_eq_true (by omega)
    go_wp2_with fail
    go_ret
    exact ⟨rfl, HB1.out⟩
  have hl2 : decide ((1048576 : Int) < (Q.length : Int)) = false := decide_eq_false (by omega)
  have hl3 : Q.length ≤ 1048576 := by omega
  clear hl
  go_wp2_with fail
  refine (cnew_any w1 (x := 2) (by decide)).mono ?_
  rintro e w2 (⟨hx, -⟩ | ⟨-, rfl, hc, hb⟩)
  · omega
  have HC := hide hc
  have HB2 := hide (HB1.out.trans (hb.mono HB1.out.size))
  have hs1 := HB1.out.size
  have hs2 := hb.size
  obtain ⟨bc, hbc⟩ : ∃ bc, w1.heap.size = bc := ⟨_, rfl⟩
  rw [show Value.pointer (some ⟨w1.heap.size, 0, none⟩) = Value.pointer (some ⟨bc, 0, none⟩) by rw [hbc]]
  rw [hbc] at HC hs1
  clear hc hb hbc
  go_wp2_with fail
  refine (tnew_any w2 1).mono ?_
  rintro e w3 (⟨hx, -⟩ | ⟨nn, b, g, cp, hn1, -, -, rfl, ht, hb⟩)
  · omega
  obtain rfl : nn = 1 := by omega
  have HC := hide (HC.out.below hb)
  have HB3 := hide (HB2.out.trans (hb.mono HB2.out.size))
  have hs3 := HB2.out.size
  have HTm : Hid (Tm 92 w2.heap.size w3 b g cp [dk0]) := hide ht
  clear ht hb hn1
  have HO : Hid (Ow w w3.heap.size (fun _ => 0) 0 ⟨w3.heap.size, bc, b, g, cp, .slice none 0 0, .slice none 0 0⟩ j00 (w3.alloc (.cells #[.pointer (some ⟨bc, 0, none⟩), .pointer (some ⟨b, 0, none⟩), .int .i64 1, .int .i64 0, .int .i64 0, .slice none 0 0, .slice none 0 0, .bool false] 67))) := hide ⟨rfl, inv00, ⟨heap_alloc_new w3 _, HC.out.below (below_alloc w3 _), (HTm.out.base hs3).below (below_alloc w3 _), World.ownsRow_nil _ _ _ _, World.ownsRow_nil _ _ _ _, HB3.out.size, hs1⟩, HB3.out.alloc HB3.out.size _⟩
  clear HC HTm HB1 HB2
  go_wp2_with fail
  generalize w3.alloc (.cells #[.pointer (some ⟨bc, 0, none⟩), .pointer (some ⟨b, 0, none⟩), .int .i64 1, .int .i64 0, .int .i64 0, .slice none 0 0, .slice none 0 0, .bool false] 67) = W at *
  obtain ⟨a, ha⟩ : ∃ a, w3.heap.size = a := ⟨_, rfl⟩
  rw [ha] at HO
  try rw [ha]
  clear ha
  go_loopw [8] (fun t wr => ∃ (i : Nat) (own : Int → Int) (A : Ja) (j : Jt), i ≤ Q.length ∧ t = .int .i64 (i : Int) ∧ Hid (Ow w a own (3 * (i : Int)) A j wr)) (fun t _ => Q.length - (intOf t).toNat)
  case atStart => exact ⟨0, _, _, _, Nat.zero_le _, rfl, HO⟩
  case round =>
    clear HO HB3
    obtain ⟨i, own, A, j, hi, rfl, HO⟩ := hrel
    have c7 := HO.out.c7
    have hal := HO.out.alt
    by_cases hiq : i < Q.length
    · have hii : (i : Int) < (Q.length : Int) := by omega
      have hat := HQ.out.at_ (by omega)
      subst hat
      obtain ⟨q0, q1⟩ := (HQ.out.below (by decide) Ac.cs0 HO.out.bel).two hiq
      have hlt := (HQ.out.below (by decide) Ac.cs0 HO.out.bel).lt (by omega) (by decide) Ac.cs0
      generalize Q[i] = q at *
      have hD := does_any HO.out.inv (by omega) HO.out.jm HO.out.bel.size q.k q.n
      rw [HO.out.a] at hD
      have HD := hide hD
      clear hD
      go_wp2_with fail
      refine HD.out.mono ?_
      rintro e w5 ⟨rfl, own', A', j', k1, k2, k3, k4⟩
      have HO2 : Hid (Ow w a own' (3 * ((i + 1 : Nat) : Int)) A' j' w5) := hide ⟨k1.trans HO.out.a, by rw [show 3 * ((i + 1 : Nat) : Int) = 3 * (i : Int) + 3 by omega]; exact k2, k3, HO.out.bel.trans (k4.below HO.out.jm HO.out.bel.size)⟩
      clear k1 k2 k3 k4 HD HO c7 hal q0 q1 hlt
      go_wp2_with fail
      go_roundw
      case rel => exact ⟨i + 1, own', A', j', by omega, by go_num, HO2⟩
      case measure => simp only [intOf]; omega
    · have hii : ¬ (i : Int) < (Q.length : Int) := by omega
      go_wp2_with fail
      go_ret
      exact ⟨rfl, HO.out.bel⟩
end Go.Proofs.Ytonoogiadgjodaa
