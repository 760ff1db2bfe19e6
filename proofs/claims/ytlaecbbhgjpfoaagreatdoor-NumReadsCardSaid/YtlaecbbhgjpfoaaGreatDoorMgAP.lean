import Derived.Test.YtlaecbbhgjpfoaaGreatDoorMgAO
import Derived.Deep.DeepCutAuto

section
namespace Go.Proofs.YtlaecbbhgjpfoaaGreatDoor
open Go.RowKit

/-- a box of two words that lies in a world -/
structure Box (a : World) (B : Nat) (V : Nat) : Prop where
  c0 : a.cell? ⟨B, 0, none⟩ = some (.int .u64 (hiN V : Int))
  c1 : a.cell? ⟨B, 1, none⟩ = some (.int .u64 (loN V : Int))
  f0 : a.frozen? ⟨B, 0, none⟩ = false
  f1 : a.frozen? ⟨B, 1, none⟩ = false
  lt : B < a.heap.size
theorem Box.keep {a b : World} {B V n : Nat} (h : Box a B V) (hb : Below n a b) (hn : B < n) : Box b B V :=
  ⟨by rw [hb.cell (p := ⟨B, 0, none⟩) hn]; exact h.c0, by rw [hb.cell (p := ⟨B, 1, none⟩) hn]; exact h.c1, by rw [hb.frozen (p := ⟨B, 0, none⟩) hn]; exact h.f0, by rw [hb.frozen (p := ⟨B, 1, none⟩) hn]; exact h.f1, Nat.lt_of_lt_of_le h.lt hb.size⟩

/-- the last step: the number of a place q and what is added to it -/
structure Fin4 (s : Nat) (q E : Int) (x : Nat) : Prop where
  f1 : (971 < q ∨ 9218868437227405312 ≤ E) → bits .or .u64 (s : Int) 9218868437227405312 = (x : Int)
  f2 : q ≤ 971 → E < 9218868437227405312 → bits .or .u64 (s : Int) E = (x : Int)
theorem one_left (k D : Nat) (hk : k ≤ 126) (hD : 2 ^ k = D) (w : World) :
    Calls Tryz.prog 27 #[.agg #[.int .u64 0, .int .u64 1], .int .i64 (k : Int)] w fun e w' => e = .returned (wn D) ∧ Below w.heap.size w w' := by
  have h1 : 1 * 2 ^ k < 18446744073709551616 * 18446744073709551616 := by
    have := Nat.pow_le_pow_right (n := 2) (by omega) hk
    rw [Nat.one_mul]; exact Nat.lt_of_le_of_lt this (by decide)
  have := left_n 1 k (by omega) h1 w
  rw [Nat.one_mul, hD] at this
  exact this
set_option maxRecDepth 8000 in
set_option maxHeartbeats 4000000 in
theorem rounded_right (s W n : Nat) (e q : Int) (rest : Bool) (_h1 : -4400 ≤ e) (_h2 : e ≤ 4400) (hL : bl W ≤ 128) (HW : Hid (W < 18446744073709551616 * 18446744073709551616)) (w : World)
    (hq : e + (bl W : Int) - 53 = q) (hq1 : -1074 ≤ q) (hqe : q - e = (n : Int)) (hn0 : 1 ≤ n) (hn : n ≤ 127) (V T C k D : Nat) (hk : (n : Int) - 1 = (k : Int)) (hk2 : k ≤ 126) (hD : Hid (2 ^ k = D)) (odd : Int) (hodd : bits .and .u64 (loN V : Int) 1 = odd) (x : Nat)
    (hup : (Fin4 s q (IntKind.u64.wrap ((q + 1074) * 4503599627370496 + IntKind.u64.wrap ((loN V : Int) + 1))) x ∧ (decide (D < C) = true ∨ (decide (D < C) = false ∧ C = D ∧ rest = true) ∨ (decide (D < C) = false ∧ C = D ∧ rest = false ∧ (odd == 1) = true)))
      ∨ (Fin4 s q (IntKind.u64.wrap ((q + 1074) * 4503599627370496 + (loN V : Int))) x ∧ ((decide (D < C) = false ∧ C = D ∧ rest = false ∧ (odd == 1) = false) ∨ (decide (D < C) = false ∧ Hid (¬ (hiN C = hiN D ∧ loN C = loN D)))))) (hV : Hid (W / 2 ^ n = V)) (hT : Hid (V * 2 ^ n = T)) (hC : Hid (W - T = C)) (hVn : Hid (T ≤ W)) :
    Calls Tryz.prog 11 #[.int .u64 (s : Int), wn W, .int .i64 e, .bool rest] w fun e' w' => e' = .returned (.int .u64 (x : Int)) ∧ Below w.heap.size w w' := by
  go_enter Tryz.func11, Tryz.ntmps11
  go_wp2_with fail
  refine (length_n W HW.out _).mono ?_
  rintro e' w1 ⟨rfl, hb1⟩
  obtain ⟨p0, p1, p2, p3, p4⟩ := keep2 (B := w.heap.size) hb1 (by simp) (by simp; rfl) (by simp; rfl) (by simp) (by simp)
  have hn1 : (1 : Int) ≤ (n : Int) := by omega
  have hn2 : (n : Int) ≤ 127 := by omega
  have B1 := ((Below.refl w.heap.size w).alloc (Nat.le_refl _) _).trans (hb1.mono (by simp))
  go_wp2_with fail
  refine (right_n W n hn hn0 HW.out _).mono ?_
  rw [hV.out]
  rintro e' w2 ⟨rfl, hb2⟩
  obtain ⟨t0, t1, t2, t3, t4⟩ := keep2 (B := w1.heap.size) hb2 (by simp) (by simp; rfl) (by simp; rfl) (by simp) (by simp)
  have B2 := (B1.alloc B1.size _).trans (hb2.mono (by simp; exact Nat.le_succ_of_le B1.size))
  have bw : Box w2 w.heap.size W := (⟨p0, p1, p2, p3, p4⟩ : Box w1 w.heap.size W).keep (n := w1.heap.size) (((Below.refl w1.heap.size w1).alloc (Nat.le_refl _) _).trans (hb2.mono (by simp))) p4
  go_wp2_with fail
  have bm : Box ((w2.setCell ⟨w1.heap.size, 0, none⟩ (.int .u64 (hiN V : Int))).setCell ⟨w1.heap.size, 1, none⟩ (.int .u64 (loN V : Int))) w1.heap.size V := ⟨(cells2 t0 t1).1, (cells2 t0 t1).2, by simp [t2], by simp [t3], by simp [t4]⟩
  have bw2 : Box ((w2.setCell ⟨w1.heap.size, 0, none⟩ (.int .u64 (hiN V : Int))).setCell ⟨w1.heap.size, 1, none⟩ (.int .u64 (loN V : Int))) w.heap.size W := bw.keep (n := w1.heap.size) (((Below.refl w1.heap.size w2).setCell (p := ⟨w1.heap.size, 0, none⟩) (Nat.le_refl _) _).setCell (p := ⟨w1.heap.size, 1, none⟩) (Nat.le_refl _) _) p4
  have BU := (B2.setCell (p := ⟨w1.heap.size, 0, none⟩) B1.size (.int .u64 (hiN V : Int))).setCell (p := ⟨w1.heap.size, 1, none⟩) B1.size (.int .u64 (loN V : Int))
  generalize ((w2.setCell ⟨w1.heap.size, 0, none⟩ (.int .u64 (hiN V : Int))).setCell ⟨w1.heap.size, 1, none⟩ (.int .u64 (loN V : Int))) = u at bm bw2 BU ⊢
  clear t0 t1 t2 t3 t4 bw B2 hb2 p0 p1 p2 p3 hb1 B1
  obtain ⟨m0, m1, m2, m3, m4⟩ := bm
  obtain ⟨v0, v1, v2, v3, v4⟩ := bw2
  go_cut [12] (fun p wx => ∃ B, p = .pointer (some ⟨B, 0, none⟩) ∧ Box wx B C ∧ Box wx w1.heap.size V ∧ Below w.heap.size w wx)
  case first =>
    go_region_with (first
      | (go_at_call 27
         refine (left_n V n hn ?_ _).mono ?_
         exact Nat.lt_of_le_of_lt (hT.out ▸ hVn.out) HW.out
         rw [hT.out]
         rintro e' w3 ⟨rfl, hb3⟩
         first
           | (guard_hyp hb3 : Below u.drew.heap.size u.drew w3
              have bx : Below u.heap.size u w3 := (Below.refl u.heap.size u).drew.trans (hb3.mono (by simp)))
           | (have bx : Below u.heap.size u w3 := ((Below.refl u.heap.size u).drew.alloc (by simp) _).trans (hb3.mono (by simp))
              obtain ⟨z0, z1, z2, z3, z4⟩ := keep2 (B := u.heap.size) (x := .int .u64 0) (y := .int .u64 0) hb3 (by simp) (by simp) (by simp) (by simp) (by simp))
         obtain ⟨a0, a1, a2, a3, a4⟩ := Box.keep (⟨v0, v1, v2, v3, v4⟩ : Box u w.heap.size W) bx v4
         have bm3 := Box.keep (⟨m0, m1, m2, m3, m4⟩ : Box u w1.heap.size V) bx m4)
      | (go_at_call 29
         refine (minus_n W T hVn.out HW.out _).mono ?_
         rw [hC.out]
         rintro e' w4 ⟨rfl, hb4⟩
         first
           | (guard_hyp hb4 : Below w3.heap.size w3 w4
              have by4 : Below w3.heap.size w3 w4 := hb4
              first
                | (guard_hyp z4 : u.heap.size < w3.heap.size
                   obtain ⟨y0, y1, y2, y3, y4⟩ := keep2 (B := u.heap.size) hb4 z4 z0 z1 z2 z3)
                | skip)
           | (have by4 : Below w3.heap.size w3 w4 := ((Below.refl w3.heap.size w3).alloc (Nat.le_refl _) _).trans (hb4.mono (by simp))
              obtain ⟨y0, y1, y2, y3, y4⟩ := keep2 (B := w3.heap.size) (x := .int .u64 0) (y := .int .u64 0) hb4 (by simp) (by simp) (by simp) (by simp) (by simp))
         have bx4 : Below u.heap.size u w4 := bx.trans (by4.mono bx.size)
         have bm4 := bm3.keep by4 bm3.lt
         have BW4 := BU.trans (bx4.mono BU.size)))
    all_goals go_wp2_with fail
    all_goals go_meet
    all_goals first
      | exact ⟨_, rfl, ⟨by simp, by simp, by simp, by simp, by simp⟩, bm4.keep ((Below.refl w4.heap.size w4).alloc (Nat.le_refl _) _) bm4.lt, BW4.alloc BW4.size _⟩
      | exact ⟨_, rfl, ⟨(cells2 y0 y1).1, (cells2 y0 y1).2, by simp [y2], by simp [y3], by simp [y4]⟩, bm4.keep (n := u.heap.size) (((Below.refl u.heap.size w4).setCell (p := ⟨u.heap.size, 0, none⟩) (Nat.le_refl _) _).setCell (p := ⟨u.heap.size, 1, none⟩) (Nat.le_refl _) _) m4, (BW4.setCell (p := ⟨u.heap.size, 0, none⟩) BU.size _).setCell (p := ⟨u.heap.size, 1, none⟩) BU.size _⟩
      | exact ⟨_, rfl, ⟨(cells2 y0 y1).1, (cells2 y0 y1).2, by simp [y2], by simp [y3], by simp [y4]⟩, bm4.keep (n := w3.heap.size) (((Below.refl w3.heap.size w4).setCell (p := ⟨w3.heap.size, 0, none⟩) (Nat.le_refl _) _).setCell (p := ⟨w3.heap.size, 1, none⟩) (Nat.le_refl _) _) bm3.lt, (BW4.setCell (p := ⟨w3.heap.size, 0, none⟩) (Nat.le_trans BU.size bx.size) _).setCell (p := ⟨w3.heap.size, 1, none⟩) (Nat.le_trans BU.size bx.size) _⟩
  case rest =>
  obtain ⟨B, rfl, bc, bm, BW⟩ := hcut
  obtain ⟨m0, m1, m2, m3, m4⟩ := bm
  obtain ⟨c0, c1, c2, c3, c4⟩ := bc
  go_wp2_with fail
  refine (one_left k D hk2 hD.out _).mono ?_
  rintro e' w5 ⟨rfl, hb5⟩
  obtain ⟨m0, m1, m2, m3, m4⟩ := Box.keep (⟨m0, m1, m2, m3, m4⟩ : Box wc w1.heap.size V) (((Below.refl wc.heap.size wc).alloc (Nat.le_refl _) _).trans (hb5.mono (by simp))) m4
  obtain ⟨c0, c1, c2, c3, c4⟩ := Box.keep (⟨c0, c1, c2, c3, c4⟩ : Box wc B C) (((Below.refl wc.heap.size wc).alloc (Nat.le_refl _) _).trans (hb5.mono (by simp))) c4
  have BW5 := (BW.alloc BW.size _).trans (hb5.mono (by simp; exact Nat.le_succ_of_le BW.size))
  go_wp2_with fail
  refine (less_n D C _).mono ?_
  rintro e' w6 ⟨rfl, hb6⟩
  obtain ⟨m0, m1, m2, m3, m4⟩ := Box.keep (⟨m0, m1, m2, m3, m4⟩ : Box w5 w1.heap.size V) (((Below.refl w5.heap.size w5).alloc (Nat.le_refl _) _).trans (hb6.mono (by simp))) m4
  obtain ⟨c0, c1, c2, c3, c4⟩ := Box.keep (⟨c0, c1, c2, c3, c4⟩ : Box w5 B C) (((Below.refl w5.heap.size w5).alloc (Nat.le_refl _) _).trans (hb6.mono (by simp))) c4
  obtain ⟨d0, d1, d2, d3, d4⟩ := keep2 (B := w5.heap.size) (x := .int .u64 (hiN D : Int)) (y := .int .u64 (loN D : Int)) hb6 (by simp) (by simp) (by simp) (by simp) (by simp)
  have BW6 := (BW5.alloc BW5.size _).trans (hb6.mono (by simp; exact Nat.le_succ_of_le BW5.size))
  clear hb5 hb6 BW BW5
  have BB : ∀ v, Below w.heap.size w (w6.setCell ⟨w1.heap.size, 1, none⟩ v) := fun v => BW6.setCell (p := ⟨w1.heap.size, 1, none⟩) (Nat.le_of_lt p4) v
  rcases hup with ⟨hb, u1 | ⟨u1, u2, u3⟩ | ⟨u1, u2, u3, u4⟩⟩ | ⟨hb, ⟨u1, u2, u3, u4⟩ | ⟨u1, u2⟩⟩
  · go_wp2_with fail
    all_goals go_ret
    all_goals first
      | exact ⟨congrArg (fun z => Ending.returned (.int .u64 z)) (hb.f1 (by omega)), BB _⟩
      | exact ⟨congrArg (fun z => Ending.returned (.int .u64 z)) (hb.f2 (by omega) (by omega)), BB _⟩
  · subst u2
    go_wp2_with fail
    all_goals go_ret
    all_goals first
      | exact ⟨congrArg (fun z => Ending.returned (.int .u64 z)) (hb.f1 (by omega)), BB _⟩
      | exact ⟨congrArg (fun z => Ending.returned (.int .u64 z)) (hb.f2 (by omega) (by omega)), BB _⟩
  · subst u2
    go_wp2_with fail
    all_goals go_ret
    all_goals first
      | exact ⟨congrArg (fun z => Ending.returned (.int .u64 z)) (hb.f1 (by omega)), BB _⟩
      | exact ⟨congrArg (fun z => Ending.returned (.int .u64 z)) (hb.f2 (by omega) (by omega)), BB _⟩
  · subst u2
    go_wp2_with fail
    all_goals go_ret
    all_goals first
      | exact ⟨congrArg (fun z => Ending.returned (.int .u64 z)) (hb.f1 (by omega)), BW6⟩
      | exact ⟨congrArg (fun z => Ending.returned (.int .u64 z)) (hb.f2 (by omega) (by omega)), BW6⟩
  · go_wp2_with fail
    all_goals first
      | exact (u2.out ⟨by omega, by omega⟩).elim
      | (go_ret
         first
           | exact ⟨congrArg (fun z => Ending.returned (.int .u64 z)) (hb.f1 (by omega)), BW6⟩
           | exact ⟨congrArg (fun z => Ending.returned (.int .u64 z)) (hb.f2 (by omega) (by omega)), BW6⟩)
end Go.Proofs.YtlaecbbhgjpfoaaGreatDoor
end

section
namespace Go.Proofs.YtlaecbbhgjpfoaaGreatDoor
open Go.RowKit
open Gn

abbrev sg (v : Bool) : Nat := if v then 9223372036854775808 else 0
theorem fin_of (v : Bool) (q E : Int) (R : Nat) (hR : q ≤ 971 → E = (R : Int)) (hbig : 971 < q → 9218868437227405312 ≤ R) : Fin4 (sg v) q E (wd v (min R 9218868437227405312)) := by
  refine ⟨fun h => ?_, fun h1 h2 => ?_⟩
  · have : 9218868437227405312 ≤ R := by
      by_cases hq : q ≤ 971
      · have := hR hq; omega
      · exact hbig (by omega)
    rw [Nat.min_eq_right this]
    exact or_sgn v 9218868437227405312 (by decide)
  · have := hR h1
    rw [Nat.min_eq_left (by omega), this]
    exact or_sgn v R (by omega)
theorem hl_ne {C D : Nat} (h : C ≠ D) : ¬ (hiN C = hiN D ∧ loN C = loN D) := by
  unfold hiN loN; omega
theorem lo_small {V : Nat} (h : V < 18446744073709551616) : loN V = V := by unfold loN; omega
theorem odd_and (V : Nat) (h : V < 18446744073709551616) : bits .and .u64 (V : Int) 1 = ((V % 2 : Nat) : Int) := by
  rw [show (1 : Int) = ((1 : Nat) : Int) from rfl, u64_and_nat _ _ h (by omega), Nat.and_one_is_mod]

/-- the ways to round, as the walk parts them -/
theorem up_ways (P Q : Prop) (V C D : Nat) (odd : Int) (hodd : odd = ((V % 2 : Nat) : Int))
    (h1 : (D < C ∨ (D = C ∧ V % 2 = 1)) → P) (h2 : ¬ (D < C ∨ (D = C ∧ V % 2 = 1)) → Q) :
    (P ∧ (decide (D < C) = true ∨ (decide (D < C) = false ∧ C = D ∧ false = true) ∨ (decide (D < C) = false ∧ C = D ∧ false = false ∧ (odd == 1) = true)))
      ∨ (Q ∧ ((decide (D < C) = false ∧ C = D ∧ false = false ∧ (odd == 1) = false) ∨ (decide (D < C) = false ∧ Hid (¬ (hiN C = hiN D ∧ loN C = loN D))))) := by
  by_cases a : D < C
  · exact .inl ⟨h1 (.inl a), .inl (decide_eq_true a)⟩
  · by_cases c : C = D
    · by_cases o : V % 2 = 1
      · exact .inl ⟨h1 (.inr ⟨c.symm, o⟩), .inr (.inr ⟨decide_eq_false a, c, rfl, by rw [hodd, o]; rfl⟩)⟩
      · exact .inr ⟨h2 (by omega), .inl ⟨decide_eq_false a, c, rfl, by rw [hodd, show V % 2 = 0 from by omega]; rfl⟩⟩
    · exact .inr ⟨h2 (by omega), .inr ⟨decide_eq_false a, hl_ne c⟩⟩
theorem rhe_up (W n k : Nat) (hn : n = k + 1) (h : 2 ^ k < W % 2 ^ n ∨ (2 ^ k = W % 2 ^ n ∧ W / 2 ^ n % 2 = 1)) : rhe W n = W / 2 ^ n + 1 := by
  unfold rhe
  rw [if_pos]
  subst hn
  rw [Nat.pow_succ] at h ⊢
  omega
theorem rhe_down (W n k : Nat) (hn : n = k + 1) (h : ¬ (2 ^ k < W % 2 ^ n ∨ (2 ^ k = W % 2 ^ n ∧ W / 2 ^ n % 2 = 1))) : rhe W n = W / 2 ^ n := by
  unfold rhe
  rw [if_neg, Nat.add_zero]
  subst hn
  rw [Nat.pow_succ] at h ⊢
  omega

/-- the document's rounding of W 2^e, at a place q, n below it -/
theorem rounded_mid (v : Bool) (W n : Nat) (e q : Int) (h0 : W ≠ 0) (he1 : -4400 ≤ e) (he2 : e ≤ 4400) (hL : W.log2 ≤ 126) (hq : e + (W.log2 : Int) - 52 = q) (hq1 : -1074 ≤ q) (hqe : q - e = (n : Int)) (hn0 : 1 ≤ n) (w : World) :
    Calls Tryz.prog 11 #[.int .u64 (sg v : Int), wn W, .int .i64 e, .bool false] w fun e' w' => e' = .returned (.int .u64 (wd v (rung W e) : Int)) ∧ Below w.heap.size w w' := by
  have hbl : bl W = W.log2 + 1 := by unfold bl; rw [if_neg h0]
  have hW : W < 18446744073709551616 * 18446744073709551616 := by
    have := Nat.lt_log2_self (n := W)
    have h2 := Nat.pow_le_pow_right (n := 2) (by omega) (show W.log2 + 1 ≤ 127 by omega)
    have h3 : (2 : Nat) ^ 127 < 18446744073709551616 * 18446744073709551616 := by decide
    omega
  have hmax : max (e + (W.log2 : Int) - 52) (-1074) = q := by omega
  have hK1 := kept_le W e q (by omega)
  have hK2 := kept_ge W e q h0 hq.symm
  have e1 : rungU W e = (q + 1074).toNat * 4503599627370496 + rhe W n := by
    unfold rungU; rw [hmax, show (e - q).toNat = 0 from by omega, show (q - e).toNat = n from by omega, Nat.pow_zero, Nat.mul_one]
  rw [show (e - q).toNat = 0 from by omega, show (q - e).toNat = n from by omega, Nat.pow_zero, Nat.mul_one] at hK1 hK2
  have hV := rhe_ge W n
  have hsm : W / 2 ^ n < 18446744073709551616 := by omega
  have hlo := lo_small hsm
  have hdm := Nat.div_add_mod W (2 ^ n)
  rw [rung_U W e h0, e1]
  refine rounded_right (sg v) W n e q false he1 he2 (by omega) hW w (by rw [hbl]; omega) hq1 hqe hn0 (by omega) (W / 2 ^ n) (W / 2 ^ n * 2 ^ n) (W % 2 ^ n) (n - 1) (2 ^ (n - 1)) (by omega) (by omega) rfl ((W / 2 ^ n % 2 : Nat) : Int) (by rw [hlo]; exact odd_and _ hsm) _ ?_ rfl rfl (by rw [Nat.mul_comm] at hdm; show _ = _; omega) (by rw [Nat.mul_comm] at hdm; show _ ≤ _; omega)
  refine up_ways _ _ (W / 2 ^ n) _ _ _ rfl (fun h => ?_) (fun h => ?_)
  · have e2 := rhe_up W n (n - 1) (by omega) h
    refine fin_of v q _ _ (fun hq2 => ?_) (fun hq2 => by omega)
    rw [hlo, e2, show ((W / 2 ^ n : Nat) : Int) + 1 = ((W / 2 ^ n + 1 : Nat) : Int) from by omega, wrap_nat _ (by omega), show (q + 1074) * 4503599627370496 + ((W / 2 ^ n + 1 : Nat) : Int) = (((q + 1074).toNat * 4503599627370496 + (W / 2 ^ n + 1) : Nat) : Int) from by omega]
    exact wrap_nat _ (by omega)
  · have e2 := rhe_down W n (n - 1) (by omega) h
    refine fin_of v q _ _ (fun hq2 => ?_) (fun hq2 => by omega)
    rw [hlo, e2, show (q + 1074) * 4503599627370496 + ((W / 2 ^ n : Nat) : Int) = (((q + 1074).toNat * 4503599627370496 + (W / 2 ^ n) : Nat) : Int) from by omega]
    exact wrap_nat _ (by omega)
end Go.Proofs.YtlaecbbhgjpfoaaGreatDoor
end

section
namespace Go.Proofs.YtlaecbbhgjpfoaaGreatDoor
open Go.RowKit

set_option maxRecDepth 8000 in
set_option maxHeartbeats 4000000 in
theorem rounded_low (s W n : Nat) (e : Int) (rest : Bool) (_h1 : -4400 ≤ e) (_h2 : e ≤ 4400) (hL : bl W ≤ 128) (HW : Hid (W < 18446744073709551616 * 18446744073709551616)) (w : World)
    (hq1 : e + (bl W : Int) - 53 < -1074) (hqe : -1074 - e = (n : Int)) (hn0 : 1 ≤ n) (hn : n ≤ 127) (V T C k D : Nat) (hk : (n : Int) - 1 = (k : Int)) (hk2 : k ≤ 126) (hD : Hid (2 ^ k = D)) (odd : Int) (hodd : bits .and .u64 (loN V : Int) 1 = odd) (x mm : Nat) (g1 : IntKind.u64.wrap ((loN V : Int) + 1) = (mm : Int)) (g2 : IntKind.u64.wrap (mm : Int) = (mm : Int)) (g3 : decide ((9218868437227405312 : Int) ≤ (mm : Int)) = false) (g4 : IntKind.u64.wrap (loN V : Int) = (loN V : Int)) (g5 : decide ((9218868437227405312 : Int) ≤ (loN V : Int)) = false)
    (hup : (bits .or .u64 (s : Int) (mm : Int) = (x : Int) ∧ (decide (D < C) = true ∨ (decide (D < C) = false ∧ C = D ∧ rest = true) ∨ (decide (D < C) = false ∧ C = D ∧ rest = false ∧ (odd == 1) = true)))
      ∨ (bits .or .u64 (s : Int) (loN V : Int) = (x : Int) ∧ ((decide (D < C) = false ∧ C = D ∧ rest = false ∧ (odd == 1) = false) ∨ (decide (D < C) = false ∧ Hid (¬ (hiN C = hiN D ∧ loN C = loN D)))))) (hV : Hid (W / 2 ^ n = V)) (hT : Hid (V * 2 ^ n = T)) (hC : Hid (W - T = C)) (hVn : Hid (T ≤ W)) :
    Calls Tryz.prog 11 #[.int .u64 (s : Int), wn W, .int .i64 e, .bool rest] w fun e' w' => e' = .returned (.int .u64 (x : Int)) ∧ Below w.heap.size w w' := by
  go_enter Tryz.func11, Tryz.ntmps11
  go_wp2_with fail
  refine (length_n W HW.out _).mono ?_
  rintro e' w1 ⟨rfl, hb1⟩
  obtain ⟨p0, p1, p2, p3, p4⟩ := keep2 (B := w.heap.size) hb1 (by simp) (by simp; rfl) (by simp; rfl) (by simp) (by simp)
  have hn1 : (1 : Int) ≤ (n : Int) := by omega
  have hn2 : (n : Int) ≤ 127 := by omega
  have B1 := ((Below.refl w.heap.size w).alloc (Nat.le_refl _) _).trans (hb1.mono (by simp))
  go_wp2_with fail
  refine (right_n W n hn hn0 HW.out _).mono ?_
  rw [hV.out]
  rintro e' w2 ⟨rfl, hb2⟩
  obtain ⟨t0, t1, t2, t3, t4⟩ := keep2 (B := w1.heap.size) hb2 (by simp) (by simp; rfl) (by simp; rfl) (by simp) (by simp)
  have B2 := (B1.alloc B1.size _).trans (hb2.mono (by simp; exact Nat.le_succ_of_le B1.size))
  have bw : Box w2 w.heap.size W := (⟨p0, p1, p2, p3, p4⟩ : Box w1 w.heap.size W).keep (n := w1.heap.size) (((Below.refl w1.heap.size w1).alloc (Nat.le_refl _) _).trans (hb2.mono (by simp))) p4
  go_wp2_with fail
  have bm : Box ((w2.setCell ⟨w1.heap.size, 0, none⟩ (.int .u64 (hiN V : Int))).setCell ⟨w1.heap.size, 1, none⟩ (.int .u64 (loN V : Int))) w1.heap.size V := ⟨(cells2 t0 t1).1, (cells2 t0 t1).2, by simp [t2], by simp [t3], by simp [t4]⟩
  have bw2 : Box ((w2.setCell ⟨w1.heap.size, 0, none⟩ (.int .u64 (hiN V : Int))).setCell ⟨w1.heap.size, 1, none⟩ (.int .u64 (loN V : Int))) w.heap.size W := bw.keep (n := w1.heap.size) (((Below.refl w1.heap.size w2).setCell (p := ⟨w1.heap.size, 0, none⟩) (Nat.le_refl _) _).setCell (p := ⟨w1.heap.size, 1, none⟩) (Nat.le_refl _) _) p4
  have BU := (B2.setCell (p := ⟨w1.heap.size, 0, none⟩) B1.size (.int .u64 (hiN V : Int))).setCell (p := ⟨w1.heap.size, 1, none⟩) B1.size (.int .u64 (loN V : Int))
  generalize ((w2.setCell ⟨w1.heap.size, 0, none⟩ (.int .u64 (hiN V : Int))).setCell ⟨w1.heap.size, 1, none⟩ (.int .u64 (loN V : Int))) = u at bm bw2 BU ⊢
  clear t0 t1 t2 t3 t4 bw B2 hb2 p0 p1 p2 p3 hb1 B1
  obtain ⟨m0, m1, m2, m3, m4⟩ := bm
  obtain ⟨v0, v1, v2, v3, v4⟩ := bw2
  go_cut [12] (fun p wx => ∃ B, p = .pointer (some ⟨B, 0, none⟩) ∧ Box wx B C ∧ Box wx w1.heap.size V ∧ Below w.heap.size w wx)
  case first =>
    go_region_with (first
      | (go_at_call 27
         refine (left_n V n hn ?_ _).mono ?_
         exact Nat.lt_of_le_of_lt (hT.out ▸ hVn.out) HW.out
         rw [hT.out]
         rintro e' w3 ⟨rfl, hb3⟩
         first
           | (guard_hyp hb3 : Below u.drew.heap.size u.drew w3
              have bx : Below u.heap.size u w3 := (Below.refl u.heap.size u).drew.trans (hb3.mono (by simp)))
           | (have bx : Below u.heap.size u w3 := ((Below.refl u.heap.size u).drew.alloc (by simp) _).trans (hb3.mono (by simp))
              obtain ⟨z0, z1, z2, z3, z4⟩ := keep2 (B := u.heap.size) (x := .int .u64 0) (y := .int .u64 0) hb3 (by simp) (by simp) (by simp) (by simp) (by simp))
         obtain ⟨a0, a1, a2, a3, a4⟩ := Box.keep (⟨v0, v1, v2, v3, v4⟩ : Box u w.heap.size W) bx v4
         have bm3 := Box.keep (⟨m0, m1, m2, m3, m4⟩ : Box u w1.heap.size V) bx m4)
      | (go_at_call 29
         refine (minus_n W T hVn.out HW.out _).mono ?_
         rw [hC.out]
         rintro e' w4 ⟨rfl, hb4⟩
         first
           | (guard_hyp hb4 : Below w3.heap.size w3 w4
              have by4 : Below w3.heap.size w3 w4 := hb4
              first
                | (guard_hyp z4 : u.heap.size < w3.heap.size
                   obtain ⟨y0, y1, y2, y3, y4⟩ := keep2 (B := u.heap.size) hb4 z4 z0 z1 z2 z3)
                | skip)
           | (have by4 : Below w3.heap.size w3 w4 := ((Below.refl w3.heap.size w3).alloc (Nat.le_refl _) _).trans (hb4.mono (by simp))
              obtain ⟨y0, y1, y2, y3, y4⟩ := keep2 (B := w3.heap.size) (x := .int .u64 0) (y := .int .u64 0) hb4 (by simp) (by simp) (by simp) (by simp) (by simp))
         have bx4 : Below u.heap.size u w4 := bx.trans (by4.mono bx.size)
         have bm4 := bm3.keep by4 bm3.lt
         have BW4 := BU.trans (bx4.mono BU.size)))
    all_goals go_wp2_with fail
    all_goals go_meet
    all_goals first
      | exact ⟨_, rfl, ⟨by simp, by simp, by simp, by simp, by simp⟩, bm4.keep ((Below.refl w4.heap.size w4).alloc (Nat.le_refl _) _) bm4.lt, BW4.alloc BW4.size _⟩
      | exact ⟨_, rfl, ⟨(cells2 y0 y1).1, (cells2 y0 y1).2, by simp [y2], by simp [y3], by simp [y4]⟩, bm4.keep (n := u.heap.size) (((Below.refl u.heap.size w4).setCell (p := ⟨u.heap.size, 0, none⟩) (Nat.le_refl _) _).setCell (p := ⟨u.heap.size, 1, none⟩) (Nat.le_refl _) _) m4, (BW4.setCell (p := ⟨u.heap.size, 0, none⟩) BU.size _).setCell (p := ⟨u.heap.size, 1, none⟩) BU.size _⟩
      | exact ⟨_, rfl, ⟨(cells2 y0 y1).1, (cells2 y0 y1).2, by simp [y2], by simp [y3], by simp [y4]⟩, bm4.keep (n := w3.heap.size) (((Below.refl w3.heap.size w4).setCell (p := ⟨w3.heap.size, 0, none⟩) (Nat.le_refl _) _).setCell (p := ⟨w3.heap.size, 1, none⟩) (Nat.le_refl _) _) bm3.lt, (BW4.setCell (p := ⟨w3.heap.size, 0, none⟩) (Nat.le_trans BU.size bx.size) _).setCell (p := ⟨w3.heap.size, 1, none⟩) (Nat.le_trans BU.size bx.size) _⟩
  case rest =>
  obtain ⟨B, rfl, bc, bm, BW⟩ := hcut
  obtain ⟨m0, m1, m2, m3, m4⟩ := bm
  obtain ⟨c0, c1, c2, c3, c4⟩ := bc
  go_wp2_with fail
  refine (one_left k D hk2 hD.out _).mono ?_
  rintro e' w5 ⟨rfl, hb5⟩
  obtain ⟨m0, m1, m2, m3, m4⟩ := Box.keep (⟨m0, m1, m2, m3, m4⟩ : Box wc w1.heap.size V) (((Below.refl wc.heap.size wc).alloc (Nat.le_refl _) _).trans (hb5.mono (by simp))) m4
  obtain ⟨c0, c1, c2, c3, c4⟩ := Box.keep (⟨c0, c1, c2, c3, c4⟩ : Box wc B C) (((Below.refl wc.heap.size wc).alloc (Nat.le_refl _) _).trans (hb5.mono (by simp))) c4
  have BW5 := (BW.alloc BW.size _).trans (hb5.mono (by simp; exact Nat.le_succ_of_le BW.size))
  go_wp2_with fail
  refine (less_n D C _).mono ?_
  rintro e' w6 ⟨rfl, hb6⟩
  obtain ⟨m0, m1, m2, m3, m4⟩ := Box.keep (⟨m0, m1, m2, m3, m4⟩ : Box w5 w1.heap.size V) (((Below.refl w5.heap.size w5).alloc (Nat.le_refl _) _).trans (hb6.mono (by simp))) m4
  obtain ⟨c0, c1, c2, c3, c4⟩ := Box.keep (⟨c0, c1, c2, c3, c4⟩ : Box w5 B C) (((Below.refl w5.heap.size w5).alloc (Nat.le_refl _) _).trans (hb6.mono (by simp))) c4
  obtain ⟨d0, d1, d2, d3, d4⟩ := keep2 (B := w5.heap.size) (x := .int .u64 (hiN D : Int)) (y := .int .u64 (loN D : Int)) hb6 (by simp) (by simp) (by simp) (by simp) (by simp)
  have BW6 := (BW5.alloc BW5.size _).trans (hb6.mono (by simp; exact Nat.le_succ_of_le BW5.size))
  clear hb5 hb6 BW BW5
  have BB : ∀ v, Below w.heap.size w (w6.setCell ⟨w1.heap.size, 1, none⟩ v) := fun v => BW6.setCell (p := ⟨w1.heap.size, 1, none⟩) (Nat.le_of_lt p4) v
  rcases hup with ⟨g6, u1 | ⟨u1, u2, u3⟩ | ⟨u1, u2, u3, u4⟩⟩ | ⟨g6, ⟨u1, u2, u3, u4⟩ | ⟨u1, u2⟩⟩
  · go_wp2_with fail
    go_ret
    exact ⟨rfl, BB _⟩
  · subst u2
    go_wp2_with fail
    go_ret
    exact ⟨rfl, BB _⟩
  · subst u2
    go_wp2_with fail
    go_ret
    exact ⟨rfl, BB _⟩
  · subst u2
    go_wp2_with fail
    go_ret
    exact ⟨rfl, BW6⟩
  · go_wp2_with fail
    all_goals first
      | exact (u2.out ⟨by omega, by omega⟩).elim
      | (go_ret
         exact ⟨rfl, BW6⟩)
end Go.Proofs.YtlaecbbhgjpfoaaGreatDoor
end

section
namespace Go.Proofs.YtlaecbbhgjpfoaaGreatDoor
open Go.RowKit
open Gn

theorem pow127 {W : Nat} (hL : W.log2 ≤ 126) : W < 2 ^ 127 := by
  have := Nat.lt_log2_self (n := W)
  have h2 := Nat.pow_le_pow_right (n := 2) (by omega) (show W.log2 + 1 ≤ 127 by omega)
  omega
theorem p127 : (2 : Nat) ^ 127 < 18446744073709551616 * 18446744073709551616 := by decide
theorem wd_nought (v : Bool) : wd v 0 = sg v := by cases v <;> rfl
/-- far below the least amount -/
theorem rounded_W_far (v : Bool) (W n : Nat) (e : Int) (h0 : W ≠ 0) (he1 : -4400 ≤ e) (he2 : e ≤ 4400) (hL : W.log2 ≤ 126) (hn : -1074 - e = (n : Int)) (h128 : 128 ≤ n) (w : World) :
    Calls Tryz.prog 11 #[.int .u64 (sg v : Int), wn W, .int .i64 e, .bool false] w fun e' w' => e' = .returned (.int .u64 (wd v (rung W e) : Int)) ∧ Below w.heap.size w w' := by
  have hbl : bl W = W.log2 + 1 := by unfold bl; rw [if_neg h0]
  have h1 := pow127 hL
  have h2 := p127
  have hp : 2 ^ 127 ≤ 2 ^ (n - 1) := Nat.pow_le_pow_right (by omega) (by omega)
  have hp2 : 2 ^ 128 ≤ 2 ^ n := Nat.pow_le_pow_right (by omega) (by omega)
  have hp3 : (2 : Nat) ^ 127 < 2 ^ 128 := by decide
  have hlt : W < 2 ^ n := by omega
  have er : rhe W n = 0 := by
    rw [rhe_down W n (n - 1) (by omega) (by rw [Nat.mod_eq_of_lt hlt, Nat.div_eq_of_lt hlt]; omega), Nat.div_eq_of_lt hlt]
  have e1 : rung W e = 0 := by
    rw [rung_U W e h0]
    unfold rungU
    rw [show max (e + (W.log2 : Int) - 52) (-1074) = -1074 from by omega, show (e - -1074).toNat = 0 from by omega, show (-1074 - e).toNat = n from by omega, Nat.pow_zero, Nat.mul_one, er]
    rfl
  rw [e1, wd_nought]
  exact rounded_far (sg v) W e false he1 he2 (by omega) (show W < 18446744073709551616 * 18446744073709551616 by omega) (by rw [hbl]; omega) (by omega) w
/-- exact: what is shifted up -/
theorem shift_lt {W n : Nat} (L k : Nat) (h : W < 2 ^ (L + 1)) (hk : L + 1 + n ≤ k) : W * 2 ^ n < 2 ^ k := by
  have h3 : W * 2 ^ n < 2 ^ (L + 1) * 2 ^ n := Nat.mul_lt_mul_of_pos_right h (Nat.two_pow_pos _)
  rw [← Nat.pow_add] at h3
  exact Nat.lt_of_lt_of_le h3 (Nat.pow_le_pow_right (by omega) hk)
theorem p53 : (2 : Nat) ^ 53 = 9007199254740992 := by decide
theorem rounded_W_left (v : Bool) (W n : Nat) (e q : Int) (h0 : W ≠ 0) (he1 : -4400 ≤ e) (he2 : e ≤ 4400) (hL : W.log2 ≤ 126) (hq : e + (W.log2 : Int) - 52 = q) (hq1 : -1074 ≤ q) (hn : q - e = -(n : Int)) (w : World) :
    Calls Tryz.prog 11 #[.int .u64 (sg v : Int), wn W, .int .i64 e, .bool false] w fun e' w' => e' = .returned (.int .u64 (wd v (rung W e) : Int)) ∧ Below w.heap.size w w' := by
  have hbl : bl W = W.log2 + 1 := by unfold bl; rw [if_neg h0]
  have h1 := pow127 hL
  have h2 := p127
  have hs := shift_lt (W := W) (n := n) W.log2 53 Nat.lt_log2_self (by omega)
  rw [p53] at hs
  have hK2 := kept_ge W e q h0 hq.symm
  rw [show (e - q).toNat = n from by omega, show (q - e).toNat = 0 from by omega, rhe_zero] at hK2
  have e1 : rungU W e = (q + 1074).toNat * 4503599627370496 + W * 2 ^ n := by
    unfold rungU
    rw [show max (e + (W.log2 : Int) - 52) (-1074) = q from by omega, show (e - q).toNat = n from by omega, show (q - e).toNat = 0 from by omega, rhe_zero]
  rw [rung_U W e h0, e1]
  by_cases hq2 : q ≤ 971
  · rw [Nat.min_eq_left (by omega)]
    exact rounded_left (sg v) W n e q false ((q + 1074).toNat * 4503599627370496 + W * 2 ^ n) he1 he2 (by omega) (show W < 18446744073709551616 * 18446744073709551616 by omega) w (by rw [hbl]; omega) hq1 hq2 hn (by omega)
      (show W * 2 ^ n < 18446744073709551616 * 18446744073709551616 by omega) ((q + 1074).toNat * 4503599627370496) (by omega) (wrap_nat _ (by omega)) (W * 2 ^ n) (lo_small (by omega)) (wrap_nat ((q + 1074).toNat * 4503599627370496 + W * 2 ^ n) (by omega)) (decide_eq_false (by omega)) _ (or_sgn v _ (by omega))
  · rw [Nat.min_eq_right (by omega)]
    exact rounded_left_inf (sg v) W n e q false he1 he2 (by omega) (show W < 18446744073709551616 * 18446744073709551616 by omega) w (by rw [hbl]; omega) (by omega) hn (by omega) (show W * 2 ^ n < 18446744073709551616 * 18446744073709551616 by omega) _ (or_sgn v 9218868437227405312 (by decide))
theorem rounded_W_left_low (v : Bool) (W n : Nat) (e : Int) (h0 : W ≠ 0) (he1 : -4400 ≤ e) (he2 : e ≤ 4400) (hL : W.log2 ≤ 126) (hq : e + (W.log2 : Int) - 52 < -1074) (hn : -1074 - e = -(n : Int)) (w : World) :
    Calls Tryz.prog 11 #[.int .u64 (sg v : Int), wn W, .int .i64 e, .bool false] w fun e' w' => e' = .returned (.int .u64 (wd v (rung W e) : Int)) ∧ Below w.heap.size w w' := by
  have hbl : bl W = W.log2 + 1 := by unfold bl; rw [if_neg h0]
  have h1 := pow127 hL
  have h2 := p127
  have hs := shift_lt (W := W) (n := n) W.log2 53 Nat.lt_log2_self (by omega)
  rw [p53] at hs
  have e1 : rungU W e = W * 2 ^ n := by
    unfold rungU
    rw [show max (e + (W.log2 : Int) - 52) (-1074) = -1074 from by omega, show (e - -1074).toNat = n from by omega, show (-1074 - e).toNat = 0 from by omega, rhe_zero, show ((-1074 : Int) + 1074).toNat = 0 from rfl, Nat.zero_mul, Nat.zero_add]
  rw [rung_U W e h0, e1, Nat.min_eq_left (by omega)]
  exact rounded_left_low (sg v) W n e false he1 he2 (by omega) (show W < 18446744073709551616 * 18446744073709551616 by omega) w (by rw [hbl]; omega) hn (by omega) (show W * 2 ^ n < 18446744073709551616 * 18446744073709551616 by omega) (W * 2 ^ n) (lo_small (by omega)) (wrap_nat _ (by omega)) (decide_eq_false (by omega)) _ (or_sgn v _ (by omega))
theorem rounded_W_low (v : Bool) (W n : Nat) (e : Int) (h0 : W ≠ 0) (he1 : -4400 ≤ e) (he2 : e ≤ 4400) (hL : W.log2 ≤ 126) (hq : e + (W.log2 : Int) - 52 < -1074) (hqe : -1074 - e = (n : Int)) (hn0 : 1 ≤ n) (hn : n ≤ 127) (w : World) :
    Calls Tryz.prog 11 #[.int .u64 (sg v : Int), wn W, .int .i64 e, .bool false] w fun e' w' => e' = .returned (.int .u64 (wd v (rung W e) : Int)) ∧ Below w.heap.size w w' := by
  have hbl : bl W = W.log2 + 1 := by unfold bl; rw [if_neg h0]
  have h1 := pow127 hL
  have h2 := p127
  have hK1 := kept_le W e (-1074) (by omega)
  have e1 : rungU W e = rhe W n := by
    unfold rungU; rw [show max (e + (W.log2 : Int) - 52) (-1074) = -1074 from by omega, show (e - -1074).toNat = 0 from by omega, show (-1074 - e).toNat = n from by omega, Nat.pow_zero, Nat.mul_one, show ((-1074 : Int) + 1074).toNat = 0 from rfl, Nat.zero_mul, Nat.zero_add]
  rw [show (e - -1074).toNat = 0 from by omega, show (-1074 - e).toNat = n from by omega, Nat.pow_zero, Nat.mul_one] at hK1
  have hV := rhe_ge W n
  have hsm : W / 2 ^ n < 18446744073709551616 := by omega
  have hlo := lo_small hsm
  have hdm := Nat.div_add_mod W (2 ^ n)
  rw [rung_U W e h0, e1, Nat.min_eq_left (by omega)]
  refine rounded_low (sg v) W n e false he1 he2 (by omega) (show W < 18446744073709551616 * 18446744073709551616 by omega) w (by rw [hbl]; omega) hqe hn0 hn (W / 2 ^ n) (W / 2 ^ n * 2 ^ n) (W % 2 ^ n) (n - 1) (2 ^ (n - 1)) (by omega) (by omega) rfl ((W / 2 ^ n % 2 : Nat) : Int) (by rw [hlo]; exact odd_and _ hsm) _ (W / 2 ^ n + 1)
    (by rw [hlo, show ((W / 2 ^ n : Nat) : Int) + 1 = ((W / 2 ^ n + 1 : Nat) : Int) from by omega]; exact wrap_nat _ (by omega)) (wrap_nat _ (by omega)) (decide_eq_false (by omega)) (by rw [hlo]; exact wrap_nat _ (by omega)) (by rw [hlo]; exact decide_eq_false (by omega)) ?_ rfl rfl (by rw [Nat.mul_comm] at hdm; show _ = _; omega) (by rw [Nat.mul_comm] at hdm; show _ ≤ _; omega)
  refine up_ways _ _ (W / 2 ^ n) _ _ _ rfl (fun h => ?_) (fun h => ?_)
  · rw [rhe_up W n (n - 1) (by omega) h]
    exact or_sgn v _ (by omega)
  · rw [rhe_down W n (n - 1) (by omega) h, hlo]
    exact or_sgn v _ (by omega)
/-- the document's rounding of W 2^e without a rest -/
theorem rounded_W (v : Bool) (W : Nat) (e : Int) (h0 : W ≠ 0) (he1 : -4400 ≤ e) (he2 : e ≤ 4400) (hL : W.log2 ≤ 126) (w : World) :
    Calls Tryz.prog 11 #[.int .u64 (sg v : Int), wn W, .int .i64 e, .bool false] w fun e' w' => e' = .returned (.int .u64 (wd v (rung W e) : Int)) ∧ Below w.heap.size w w' := by
  by_cases hq : -1074 ≤ e + (W.log2 : Int) - 52
  · by_cases hL2 : W.log2 ≤ 52
    · exact rounded_W_left v W (52 - W.log2) e _ h0 he1 he2 hL rfl hq (by omega) w
    · exact rounded_mid v W (W.log2 - 52) e _ h0 he1 he2 hL rfl hq (by omega) (by omega) w
  · by_cases hn : -1074 - e ≤ 0
    · exact rounded_W_left_low v W (e + 1074).toNat e h0 he1 he2 hL (by omega) (by omega) w
    · by_cases hf : 127 < -1074 - e
      · exact rounded_W_far v W (-1074 - e).toNat e h0 he1 he2 hL (by omega) (by omega) w
      · exact rounded_W_low v W (-1074 - e).toNat e h0 he1 he2 hL (by omega) (by omega) (by omega) (by omega) w
end Go.Proofs.YtlaecbbhgjpfoaaGreatDoor
end
