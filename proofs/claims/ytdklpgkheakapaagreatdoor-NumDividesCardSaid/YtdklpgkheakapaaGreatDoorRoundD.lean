import Derived.Test.YtdklpgkheakapaaGreatDoorRoundC
import Derived.Deep.DeepCutAuto
namespace Go.Proofs.YtdklpgkheakapaaGreatDoor
open Go.RowKit

set_option maxRecDepth 8000 in
set_option maxHeartbeats 4000000 in
theorem rounded_low (s W n : Nat) (e : Int) (rest : Bool) (_h1 : -4400 ≤ e) (_h2 : e ≤ 4400) (hL : bl W ≤ 128) (HW : Hid (W < 18446744073709551616 * 18446744073709551616)) (w : World)
    (hq1 : e + (bl W : Int) - 53 < -1074) (hqe : -1074 - e = (n : Int)) (hn0 : 1 ≤ n) (hn : n ≤ 127) (V T C k D : Nat) (hk : (n : Int) - 1 = (k : Int)) (hk2 : k ≤ 126) (hD : Hid (2 ^ k = D)) (odd : Int) (hodd : bits .and .u64 (loN V : Int) 1 = odd) (x mm : Nat) (g1 : IntKind.u64.wrap ((loN V : Int) + 1) = (mm : Int)) (g2 : IntKind.u64.wrap (mm : Int) = (mm : Int)) (g3 : decide ((9218868437227405312 : Int) ≤ (mm : Int)) = false) (g4 : IntKind.u64.wrap (loN V : Int) = (loN V : Int)) (g5 : decide ((9218868437227405312 : Int) ≤ (loN V : Int)) = false)
    (hup : (bits .or .u64 (s : Int) (mm : Int) = (x : Int) ∧ (decide (D < C) = true ∨ (decide (D < C) = false ∧ C = D ∧ rest = true) ∨ (decide (D < C) = false ∧ C = D ∧ rest = false ∧ (odd == 1) = true)))
      ∨ (bits .or .u64 (s : Int) (loN V : Int) = (x : Int) ∧ ((decide (D < C) = false ∧ C = D ∧ rest = false ∧ (odd == 1) = false) ∨ (decide (D < C) = false ∧ Hid (¬ (hiN C = hiN D ∧ loN C = loN D)))))) (hV : Hid (W / 2 ^ n = V)) (hT : Hid (V * 2 ^ n = T)) (hC : Hid (W - T = C)) (hVn : Hid (T ≤ W)) :
    Calls Tryz.prog 48 #[.int .u64 (s : Int), wn W, .int .i64 e, .bool rest] w fun e' w' => e' = .returned (.int .u64 (x : Int)) ∧ Below w.heap.size w w' := by
  go_enter Tryz.func48, Tryz.ntmps48
  go_wp2_with fail
  refine (length_n W HW.out _).mono ?_
  rintro e' w1 ⟨rfl, hb1⟩
  obtain ⟨p0, p1, p2, p3, p4⟩ := keep2 (B := w.heap.size) hb1 (by simp) (by simp; rfl) (by simp; rfl) (by simp) (by simp)
  have hn1 : (1 : Int) ≤ (n : Int) := by omega
  have hn2 : (n : Int) ≤ 127 := by omega
  have B1 := ((Below.refl w.heap.size w).alloc (Nat.le_refl _) _).trans (hb1.mono (by simp))
  go_wp2_with fail
  refine (right_n W n hn hn0 HW.out _).mono ?_
  rw [hV.out]
  rintro e' w2 ⟨rfl, hb2⟩
  obtain ⟨t0, t1, t2, t3, t4⟩ := keep2 (B := w1.heap.size) hb2 (by simp) (by simp; rfl) (by simp; rfl) (by simp) (by simp)
  have B2 := (B1.alloc B1.size _).trans (hb2.mono (by simp; exact Nat.le_succ_of_le B1.size))
  have bw : Box w2 w.heap.size W := (⟨p0, p1, p2, p3, p4⟩ : Box w1 w.heap.size W).keep (n := w1.heap.size) (((Below.refl w1.heap.size w1).alloc (Nat.le_refl _) _).trans (hb2.mono (by simp))) p4
  go_wp2_with fail
  have bm : Box ((w2.setCell ⟨w1.heap.size, 0, none⟩ (.int .u64 (hiN V : Int))).setCell ⟨w1.heap.size, 1, none⟩ (.int .u64 (loN V : Int))) w1.heap.size V := ⟨(cells2 t0 t1).1, (cells2 t0 t1).2, by simp [t2], by simp [t3], by simp [t4]⟩
  have bw2 : Box ((w2.setCell ⟨w1.heap.size, 0, none⟩ (.int .u64 (hiN V : Int))).setCell ⟨w1.heap.size, 1, none⟩ (.int .u64 (loN V : Int))) w.heap.size W := bw.keep (n := w1.heap.size) (((Below.refl w1.heap.size w2).setCell (p := ⟨w1.heap.size, 0, none⟩) (Nat.le_refl _) _).setCell (p := ⟨w1.heap.size, 1, none⟩) (Nat.le_refl _) _) p4
  have BU := (B2.setCell (p := ⟨w1.heap.size, 0, none⟩) B1.size (.int .u64 (hiN V : Int))).setCell (p := ⟨w1.heap.size, 1, none⟩) B1.size (.int .u64 (loN V : Int))
  generalize ((w2.setCell ⟨w1.heap.size, 0, none⟩ (.int .u64 (hiN V : Int))).setCell ⟨w1.heap.size, 1, none⟩ (.int .u64 (loN V : Int))) = u at bm bw2 BU ⊢
  clear t0 t1 t2 t3 t4 bw B2 hb2 p0 p1 p2 p3 hb1 B1
  obtain ⟨m0, m1, m2, m3, m4⟩ := bm
  obtain ⟨v0, v1, v2, v3, v4⟩ := bw2
  go_cut [12] (fun p wx => ∃ B, p = .pointer (some ⟨B, 0, none⟩) ∧ Box wx B C ∧ Box wx w1.heap.size V ∧ Below w.heap.size w wx)
  case first =>
    go_region_with (first
      | (go_at_call 47
         refine (left_n V n hn ?_ _).mono ?_
         exact Nat.lt_of_le_of_lt (hT.out ▸ hVn.out) HW.out
         rw [hT.out]
         rintro e' w3 ⟨rfl, hb3⟩
         first
           | (guard_hyp hb3 : Below u.drew.heap.size u.drew w3
              have bx : Below u.heap.size u w3 := (Below.refl u.heap.size u).drew.trans (hb3.mono (by simp)))
           | (have bx : Below u.heap.size u w3 := ((Below.refl u.heap.size u).drew.alloc (by simp) _).trans (hb3.mono (by simp))
              obtain ⟨z0, z1, z2, z3, z4⟩ := keep2 (B := u.heap.size) (x := .int .u64 0) (y := .int .u64 0) hb3 (by simp) (by simp) (by simp) (by simp) (by simp))
         obtain ⟨a0, a1, a2, a3, a4⟩ := Box.keep (⟨v0, v1, v2, v3, v4⟩ : Box u w.heap.size W) bx v4
         have bm3 := Box.keep (⟨m0, m1, m2, m3, m4⟩ : Box u w1.heap.size V) bx m4)
      | (go_at_call 50
         refine (minus_n W T hVn.out HW.out _).mono ?_
         rw [hC.out]
         rintro e' w4 ⟨rfl, hb4⟩
         first
           | (guard_hyp hb4 : Below w3.heap.size w3 w4
              have by4 : Below w3.heap.size w3 w4 := hb4
              first
                | (guard_hyp z4 : u.heap.size < w3.heap.size
                   obtain ⟨y0, y1, y2, y3, y4⟩ := keep2 (B := u.heap.size) hb4 z4 z0 z1 z2 z3)
                | skip)
           | (have by4 : Below w3.heap.size w3 w4 := ((Below.refl w3.heap.size w3).alloc (Nat.le_refl _) _).trans (hb4.mono (by simp))
              obtain ⟨y0, y1, y2, y3, y4⟩ := keep2 (B := w3.heap.size) (x := .int .u64 0) (y := .int .u64 0) hb4 (by simp) (by simp) (by simp) (by simp) (by simp))
         have bx4 : Below u.heap.size u w4 := bx.trans (by4.mono bx.size)
         have bm4 := bm3.keep by4 bm3.lt
         have BW4 := BU.trans (bx4.mono BU.size)))
    all_goals go_wp2_with fail
    all_goals go_meet
    all_goals first
      | exact ⟨_, rfl, ⟨by simp, by simp, by simp, by simp, by simp⟩, bm4.keep ((Below.refl w4.heap.size w4).alloc (Nat.le_refl _) _) bm4.lt, BW4.alloc BW4.size _⟩
      | exact ⟨_, rfl, ⟨(cells2 y0 y1).1, (cells2 y0 y1).2, by simp [y2], by simp [y3], by simp [y4]⟩, bm4.keep (n := u.heap.size) (((Below.refl u.heap.size w4).setCell (p := ⟨u.heap.size, 0, none⟩) (Nat.le_refl _) _).setCell (p := ⟨u.heap.size, 1, none⟩) (Nat.le_refl _) _) m4, (BW4.setCell (p := ⟨u.heap.size, 0, none⟩) BU.size _).setCell (p := ⟨u.heap.size, 1, none⟩) BU.size _⟩
      | exact ⟨_, rfl, ⟨(cells2 y0 y1).1, (cells2 y0 y1).2, by simp [y2], by simp [y3], by simp [y4]⟩, bm4.keep (n := w3.heap.size) (((Below.refl w3.heap.size w4).setCell (p := ⟨w3.heap.size, 0, none⟩) (Nat.le_refl _) _).setCell (p := ⟨w3.heap.size, 1, none⟩) (Nat.le_refl _) _) bm3.lt, (BW4.setCell (p := ⟨w3.heap.size, 0, none⟩) (Nat.le_trans BU.size bx.size) _).setCell (p := ⟨w3.heap.size, 1, none⟩) (Nat.le_trans BU.size bx.size) _⟩
  case rest =>
  obtain ⟨B, rfl, bc, bm, BW⟩ := hcut
  obtain ⟨m0, m1, m2, m3, m4⟩ := bm
  obtain ⟨c0, c1, c2, c3, c4⟩ := bc
  go_wp2_with fail
  refine (one_left k D hk2 hD.out _).mono ?_
  rintro e' w5 ⟨rfl, hb5⟩
  obtain ⟨m0, m1, m2, m3, m4⟩ := Box.keep (⟨m0, m1, m2, m3, m4⟩ : Box wc w1.heap.size V) (((Below.refl wc.heap.size wc).alloc (Nat.le_refl _) _).trans (hb5.mono (by simp))) m4
  obtain ⟨c0, c1, c2, c3, c4⟩ := Box.keep (⟨c0, c1, c2, c3, c4⟩ : Box wc B C) (((Below.refl wc.heap.size wc).alloc (Nat.le_refl _) _).trans (hb5.mono (by simp))) c4
  have BW5 := (BW.alloc BW.size _).trans (hb5.mono (by simp; exact Nat.le_succ_of_le BW.size))
  go_wp2_with fail
  refine (less_n D C _).mono ?_
  rintro e' w6 ⟨rfl, hb6⟩
  obtain ⟨m0, m1, m2, m3, m4⟩ := Box.keep (⟨m0, m1, m2, m3, m4⟩ : Box w5 w1.heap.size V) (((Below.refl w5.heap.size w5).alloc (Nat.le_refl _) _).trans (hb6.mono (by simp))) m4
  obtain ⟨c0, c1, c2, c3, c4⟩ := Box.keep (⟨c0, c1, c2, c3, c4⟩ : Box w5 B C) (((Below.refl w5.heap.size w5).alloc (Nat.le_refl _) _).trans (hb6.mono (by simp))) c4
  obtain ⟨d0, d1, d2, d3, d4⟩ := keep2 (B := w5.heap.size) (x := .int .u64 (hiN D : Int)) (y := .int .u64 (loN D : Int)) hb6 (by simp) (by simp) (by simp) (by simp) (by simp)
  have BW6 := (BW5.alloc BW5.size _).trans (hb6.mono (by simp; exact Nat.le_succ_of_le BW5.size))
  clear hb5 hb6 BW BW5
  have BB : ∀ v, Below w.heap.size w (w6.setCell ⟨w1.heap.size, 1, none⟩ v) := fun v => BW6.setCell (p := ⟨w1.heap.size, 1, none⟩) (Nat.le_of_lt p4) v
  rcases hup with ⟨g6, u1 | ⟨u1, u2, u3⟩ | ⟨u1, u2, u3, u4⟩⟩ | ⟨g6, ⟨u1, u2, u3, u4⟩ | ⟨u1, u2⟩⟩
  · go_wp2_with fail
    go_ret
    exact ⟨rfl, BB _⟩
  · subst u2
    go_wp2_with fail
    go_ret
    exact ⟨rfl, BB _⟩
  · subst u2
    go_wp2_with fail
    go_ret
    exact ⟨rfl, BB _⟩
  · subst u2
    go_wp2_with fail
    go_ret
    exact ⟨rfl, BW6⟩
  · go_wp2_with fail
    all_goals first
      | exact (u2.out ⟨by omega, by omega⟩).elim
      | (go_ret
         exact ⟨rfl, BW6⟩)
end Go.Proofs.YtdklpgkheakapaaGreatDoor
