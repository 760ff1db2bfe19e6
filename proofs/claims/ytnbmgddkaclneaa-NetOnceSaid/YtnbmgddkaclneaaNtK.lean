import Derived.Test.YtnbmgddkaclneaaNtJ
import Derived.Deep.DeepCutAuto
import Derived.Deep.CutBlock
import Derived.Deep.LoopGhost
namespace Go.Proofs.Ytnbmgddkaclneaa
open Go.RowKit

theorem Try.infoBo : (Try.prog.info? 4).map (fun i => (i.zero, i.size, i.bytes)) = some (some (.bool false), 1, 1) := by kernel_rfl
theorem below_of {w W w' : World} (h : Below w.heap.size w W) (k : Below W.heap.size W w') : Below w.heap.size w w' := h.trans ((Mv.of_below (F := fun _ => False) k).below h.size (fun _ x => x.elim))

theorem eight_of {w : World} {M : Nat} {a0 a1 a2 a3 a4 a5 a6 a7 : Value} {t : TypeId} (h : w.heap[M]? = some (.cells #[a0, a1, a2, a3, a4, a5, a6, a7] t (0, 0))) :
    (w.cell? ⟨M, 0, none⟩ = some a0 ∧ w.cell? ⟨M, 1, none⟩ = some a1 ∧ w.cell? ⟨M, 2, none⟩ = some a2 ∧ w.cell? ⟨M, 3, none⟩ = some a3 ∧ w.cell? ⟨M, 4, none⟩ = some a4 ∧ w.cell? ⟨M, 5, none⟩ = some a5 ∧ w.cell? ⟨M, 6, none⟩ = some a6 ∧ w.cell? ⟨M, 7, none⟩ = some a7) := by
  refine ⟨?_, ?_, ?_, ?_, ?_, ?_, ?_, ?_⟩ <;> simp [World.cell?, h]
theorem Mem3.new_ft {base : Nat} {w : World} {B : Nat} {v : Value} {l : List Dg} {s : Int} {gs cs gg cg n : Nat} {sl : List Dg} {gl : List Bool} (h : Mem3 base w B v l s gs cs gg cg n sl gl) {k : Nat} (hk : w.heap.size ≤ k) : ¬ Ft B v k := fun e => absurd (h.bag.ftlt k e).2 (by omega)


theorem Mem3.dset {base : Nat} {w : World} {B : Nat} {v : Value} {l : List Dg} {s : Int} {gs cs gg cg n : Nat} {sl : List Dg} {gl : List Bool} (h : Mem3 base w B v l s gs cs gg cg n sl gl) {D : Nat} (h1 : ¬ Ft B v D) (h2 : D ≠ gs) (h3 : D ≠ gg) (k : Nat) (u : Value) :
    Mem3 base (w.setCell ⟨D, k, none⟩ u) B v l s gs cs gg cg n sl gl := by
  have ho : ∀ j, j ≠ D → (w.setCell ⟨D, k, none⟩ u).heap[j]? = w.heap[j]? := fun j hj => Below.heap_setCell w ⟨D, k, none⟩ _ j hj
  exact ⟨h.bag.keep fun j hj => ho j (fun e => h1 (by rw [← e]; exact hj)), row_keep h.srow (ho _ (Ne.symm h2)), row_keep h.grow (ho _ (Ne.symm h3)), h.n1, h.n2, h.n3⟩
theorem ft_new {w w' : World} {B : Nat} {v v' : Value} {D : Nat} (hm : Mv (Ft B v) (Ft B v') w w') (hD : D < w.heap.size) (h : ¬ Ft B v D) : ¬ Ft B v' D := fun e => (hm.foot D e).elim h (fun x => absurd hD (by omega))
theorem six_set {w : World} {D : Nat} {a0 a1 a2 a3 a4 a5 : Value} {t : TypeId} (h : w.heap[D]? = some (.cells #[a0, a1, a2, a3, a4, a5] t (0, 0))) (b0 b1 b2 b3 b4 b5 : Value) :
    ((((((w.setCell ⟨D, 0, none⟩ b0).setCell ⟨D, 1, none⟩ b1).setCell ⟨D, 2, none⟩ b2).setCell ⟨D, 3, none⟩ b3).setCell ⟨D, 4, none⟩ b4).setCell ⟨D, 5, none⟩ b5).heap[D]? = some (.cells #[b0, b1, b2, b3, b4, b5] t (0, 0)) := by
  have h0 := heap_setCell_self w D 0 b0 _ t _ h
  have h1 := heap_setCell_self _ D 1 b1 _ t _ h0
  have h2 := heap_setCell_self _ D 2 b2 _ t _ h1
  have h3 := heap_setCell_self _ D 3 b3 _ t _ h2
  have h4 := heap_setCell_self _ D 4 b4 _ t _ h3
  exact heap_setCell_self _ D 5 b5 _ t _ h4
theorem Mem3.dset6 {base : Nat} {w : World} {B : Nat} {v : Value} {l : List Dg} {s : Int} {gs cs gg cg n : Nat} {sl : List Dg} {gl : List Bool} (h : Mem3 base w B v l s gs cs gg cg n sl gl) {D : Nat} (h1 : ¬ Ft B v D) (h2 : D ≠ gs) (h3 : D ≠ gg) (b0 b1 b2 b3 b4 b5 : Value) :
    Mem3 base ((((((w.setCell ⟨D, 0, none⟩ b0).setCell ⟨D, 1, none⟩ b1).setCell ⟨D, 2, none⟩ b2).setCell ⟨D, 3, none⟩ b3).setCell ⟨D, 4, none⟩ b4).setCell ⟨D, 5, none⟩ b5) B v l s gs cs gg cg n sl gl :=
  (((((h.dset h1 h2 h3 _ _).dset h1 h2 h3 _ _).dset h1 h2 h3 _ _).dset h1 h2 h3 _ _).dset h1 h2 h3 _ _).dset h1 h2 h3 _ _
theorem below_set6 {B : Nat} {w w' : World} (h : Below B w w') {D : Nat} (hD : B ≤ D) (b0 b1 b2 b3 b4 b5 : Value) :
    Below B w ((((((w'.setCell ⟨D, 0, none⟩ b0).setCell ⟨D, 1, none⟩ b1).setCell ⟨D, 2, none⟩ b2).setCell ⟨D, 3, none⟩ b3).setCell ⟨D, 4, none⟩ b4).setCell ⟨D, 5, none⟩ b5) :=
  (((((h.setCell hD _).setCell hD _).setCell hD _).setCell hD _).setCell hD _).setCell hD _
theorem grown_below {w w' : World} {o : Option Nat} (h : w.grownBy w' o) {B : Nat} (hB : B ≤ w.heap.size) (hf : ∀ k, o = some k → B ≤ k) : Below B w w' :=
  ⟨h.os, h.tape, h.output, h.size, fun k hk => h.block k (by omega) (fun e => absurd (hf k e.symm) (by omega))⟩
theorem take_facts {l : List Dg} {s : Int} {sl : List Dg} {gl : List Bool} (h : Lg l s sl gl) (p : Int) (hp : 0 ≤ p ∧ p < (l.length : Int)) :
    ∃ j, j < gl.length ∧ (atD l p).num = (j : Int) + 1 ∧ gl[j]? = some false ∧ Lg (takeL l p) s sl (gl.set j true) ∧ (atE l p == 0) = true := by
  obtain ⟨k, rfl⟩ : ∃ k : Nat, p = (k : Int) := ⟨p.toNat, by omega⟩
  have hk : k < l.length := by omega
  obtain ⟨j, h1, h2, h3, h4⟩ := h.take k hk
  have e1 : atD l (k : Int) = l[k] := by unfold atD; rw [if_pos hp, Int.toNat_natCast, List.getD_eq_getElem?_getD, List.getElem?_eq_getElem hk]; rfl
  have e2 : takeL l (k : Int) = l.eraseIdx k := by unfold takeL; rw [if_pos hp, Int.toNat_natCast]
  refine ⟨j, h1, by rw [e1]; exact h2, h3, by rw [e2]; exact h4, ?_⟩
  unfold atE; rw [if_pos hp]; rfl
theorem take_not {l : List Dg} (p : Int) (hp : ¬ (0 ≤ p ∧ p < (l.length : Int))) : takeL l p = l ∧ (atE l p == 0) = false := by
  refine ⟨by unfold takeL; rw [if_neg hp], ?_⟩
  unfold atE; rw [if_neg hp]; rfl
theorem Mem3.heap {base : Nat} {w w' : World} {B : Nat} {v : Value} {l : List Dg} {s : Int} {gs cs gg cg n : Nat} {sl : List Dg} {gl : List Bool} (h : Mem3 base w B v l s gs cs gg cg n sl gl) (e : w'.heap = w.heap) : Mem3 base w' B v l s gs cs gg cg n sl gl :=
  ⟨h.bag.keep fun k _ => by rw [e], row_keep h.srow (by rw [e]), row_keep h.grow (by rw [e]), h.n1, h.n2, h.n3⟩
/-- behind the switch -/
def Mid (w : World) (gs cs gg cg n D : Nat) (sl : List Dg) (u10 : Value) (wc : World) : Prop :=
  ∃ (dd : Dg) (v' : Value) (l' : List Dg) (s' : Int) (gl' : List Bool), wc.heap[D]? = some (.cells #[.int .i64 dd.num, .int .i64 dd.fn, .int .i64 dd.fl, .int .i64 dd.tn, .int .i64 dd.tl, .string dd.data] 46 (0, 0)) ∧ Below w.heap.size w wc ∧
    Mem3 w.heap.size wc w.heap.size v' l' s' gs cs gg cg n sl gl' ∧ ¬ Ft w.heap.size v' D ∧ D ≠ gs ∧ D ≠ gg ∧
    ((u10 = .int .i64 0 ∧ Lg l' s' sl gl') ∨ (u10 = .int .i64 ((n : Int) + 1) ∧ Lg l' s' (sl ++ [{ dd with num := (n : Int) + 1 }]) (gl' ++ [false])))
set_option maxHeartbeats 4000000 in
set_option maxRecDepth 8000 in
theorem netOnce_walk (ad : Option Addr) (ab ao len cap : Nat) (Q : Nat → OpV) (w : World) (hO : Ops w ad len ab ao Q) (hlen : len * 72 ≤ 140737488351232) :
    Calls Try.prog 5 #[.slice ad len cap] w fun e w' => e = .returned (.bool true) ∧ Below w.heap.size w w' := by
  go_enter Try.func5, Try.ntmps5
  go_wp2_with fail
  refine (new_any w).mono ?_
  rintro e w0 ⟨rfl, hw1⟩
  have HB0 : Hid (Bag 58 w.heap.size w0 w.heap.size (.slice none 0 0) [] 0) := by rw [hw1]; exact Bag.new _ _ _ (Nat.le_refl _)
  have HL0 : Hid (Below w.heap.size w w0) := by rw [hw1]; exact (Below.refl _ w).alloc (Nat.le_refl _) _
  clear hw1
  go_wp2_with fail
  refine (awake_true w0).mono ?_
  rintro e w1 ⟨rfl, hb1⟩
  have HB1 := hide (HB0.out.below hb1)
  have HL1 := hide (below_of HL0.out hb1)
  clear hb1 HB0 HL0
  go_wp2_with fail
  have HO := hide hO
  clear hO
  have HM1 : Hid (Mem3 w.heap.size ((w1.alloc (.cells #[] 46)).alloc (.cells #[] 4)) w.heap.size (.slice none 0 0) [] 0 w1.heap.size 0 (w1.heap.size + 1) 0 0 [] []) := by
    have hl := HB1.out.lt
    refine ⟨(HB1.out.alloc _).alloc _, ?_, ?_, ?_, ?_, by omega⟩
    · exact (World.ownsRow_made w1 #[] 0 (Nat.le_of_lt hl) (by decide) rfl).alloc _
    · have := World.ownsRow_made (base := w.heap.size) (e := 4) (size := 1) (w1.alloc (.cells #[] 46)) #[] 0 (by rw [World.size_alloc]; omega) (by decide) rfl
      rw [World.size_alloc] at this
      exact this
    · rintro (e | e)
      · omega
      · simp [Value.ownBlock] at e
    · rintro (e | e)
      · omega
      · simp [Value.ownBlock] at e
  have HL2 := hide ((HL1.out.alloc HL1.out.size (.cells #[] 46)).alloc (by rw [World.size_alloc]; exact Nat.le_succ_of_le HL1.out.size) (.cells #[] 4))
  clear HB1 HL1
  go_loopg [4, 5, 6] len (fun gk u4 u5 u6 wr => ∃ (i gs cs gg cg n : Nat) (v : Value) (l sl : List Dg) (gl : List Bool) (s : Int), Hid (gk + i = len) ∧ u4 = .slice (some ⟨gs, 0, none⟩) n cs ∧ u5 = .slice (some ⟨gg, 0, none⟩) n cg ∧ u6 = .int .i64 (i : Int) ∧ i ≤ len ∧ n ≤ i ∧ Hid (sl.length = n) ∧ Hid (Mem3 w.heap.size wr w.heap.size v l s gs cs gg cg n sl gl) ∧ Hid (Lg l s sl gl) ∧ Hid (Below w.heap.size w wr))
  case atStart => exact ⟨0, _, _, _, _, 0, _, _, _, _, _, (by show len + 0 = len; rfl), rfl, rfl, rfl, Nat.zero_le _, Nat.le_refl _, (rfl : ([] : List Dg).length = 0), HM1.out, Lg.none, HL2.out⟩
  case round =>
    obtain ⟨i, gs, cs, gg, cg, n, v, l, sl, gl, s, HK, rfl, rfl, rfl, hil, hni, HN, HM, HG, HL⟩ := hrel
    clear HM1 HL2
    by_cases hi : i < len
    · have hs' := HO.out.some (by omega)
      subst hs'
      have hi3 : (i : Int) < (len : Int) := by omega
      have hab := HO.out.old (by omega)
      have q0 := (HL.out.cell (p := ⟨ab, ao + i * 8, none⟩) hab).trans (HO.out.c0 i hi)
      have q1 := (HL.out.cell (p := ⟨ab, ao + i * 8 + 1, none⟩) hab).trans (HO.out.c1 i hi)
      have q2 := (HL.out.cell (p := ⟨ab, ao + i * 8 + 2, none⟩) hab).trans (HO.out.c2 i hi)
      have q3 := (HL.out.cell (p := ⟨ab, ao + i * 8 + 3, none⟩) hab).trans (HO.out.c3 i hi)
      have q4 := (HL.out.cell (p := ⟨ab, ao + i * 8 + 4, none⟩) hab).trans (HO.out.c4 i hi)
      have q5 := (HL.out.cell (p := ⟨ab, ao + i * 8 + 5, none⟩) hab).trans (HO.out.c5 i hi)
      have q6 := (HL.out.cell (p := ⟨ab, ao + i * 8 + 6, none⟩) hab).trans (HO.out.c6 i hi)
      have q7 := (HL.out.cell (p := ⟨ab, ao + i * 8 + 7, none⟩) hab).trans (HO.out.c7 i hi)
      generalize Q i = q at *
      have hll : l.length ≤ n := by rw [← HN.out]; exact HG.out.le
      have hss : s = (n : Int) := by rw [← HN.out]; exact HG.out.cnt
      subst hss
      go_wp2_with fail
      refine (at_any (p := q.p) (HM.out.bag.alloc _)).mono ?_
      rintro e w2 ⟨rfl, hb2⟩
      have HM2 := hide ((HM.out.alloc _).below hb2)
      have HL2 := hide (below_of (HL.out.alloc HL.out.size _) hb2)
      have HOB : Hid (w2.heap[wr.heap.size]? = some (.cells #[.int .i64 q.k, .int .i64 q.on, .int .i64 q.p, .int .i64 q.fn, .int .i64 q.fl, .int .i64 q.tn, .int .i64 q.tl, .string q.data] 35 (0, 0))) := (hb2.block _ (by rw [World.size_alloc]; omega)).trans (heap_alloc_new wr _)
      have hs2 : wr.heap.size < w2.heap.size := by have := hb2.size; rw [World.size_alloc] at this; omega
      have hne1 : wr.heap.size ≠ w2.heap.size := by omega
      have hne2 : w2.heap.size ≠ wr.heap.size := by omega
      have HNF := hide (HM.out.new_ft (Nat.le_refl _))
      obtain ⟨o0, o1, o2, o3, o4, o5, o6, o7⟩ := eight_of HOB.out
      clear hb2 HM HL q0 q1 q2 q3 q4 q5 q6 q7
      go_upto_block 2 with fail
      have HM3 := hide (HM2.out.alloc (.cells #[.int .i64 (atD l q.p).num, .int .i64 (atD l q.p).fn, .int .i64 (atD l q.p).fl, .int .i64 (atD l q.p).tn, .int .i64 (atD l q.p).tl, .string (atD l q.p).data] 46))
      have HL3 := hide (HL2.out.alloc HL2.out.size (.cells #[.int .i64 (atD l q.p).num, .int .i64 (atD l q.p).fn, .int .i64 (atD l q.p).fl, .int .i64 (atD l q.p).tn, .int .i64 (atD l q.p).tl, .string (atD l q.p).data] 46))
      have HDF := hide (HM2.out.new_ft (Nat.le_refl _))
      have HDS : Hid (w2.heap.size ≠ gs ∧ w2.heap.size ≠ gg) := ⟨fun e => absurd HM2.out.lts.2 (by omega), fun e => absurd HM2.out.ltg.2 (by omega)⟩
      have HDB : Hid ((w2.alloc (.cells #[.int .i64 (atD l q.p).num, .int .i64 (atD l q.p).fn, .int .i64 (atD l q.p).fl, .int .i64 (atD l q.p).tn, .int .i64 (atD l q.p).tl, .string (atD l q.p).data] 46)).heap[w2.heap.size]? = some (.cells #[.int .i64 (atD l q.p).num, .int .i64 (atD l q.p).fn, .int .i64 (atD l q.p).fl, .int .i64 (atD l q.p).tn, .int .i64 (atD l q.p).tl, .string (atD l q.p).data] 46 (0, 0))) := heap_alloc_new w2 _
      have HOB3 : Hid ((w2.alloc (.cells #[.int .i64 (atD l q.p).num, .int .i64 (atD l q.p).fn, .int .i64 (atD l q.p).fl, .int .i64 (atD l q.p).tn, .int .i64 (atD l q.p).tl, .string (atD l q.p).data] 46)).heap[wr.heap.size]? = some (.cells #[.int .i64 q.k, .int .i64 q.on, .int .i64 q.p, .int .i64 q.fn, .int .i64 q.fl, .int .i64 q.tn, .int .i64 q.tl, .string q.data] 35 (0, 0))) := (Below.heap_alloc w2 _ _ hs2).trans HOB.out
      have hs3 : w2.heap.size < (w2.alloc (.cells #[.int .i64 (atD l q.p).num, .int .i64 (atD l q.p).fn, .int .i64 (atD l q.p).fl, .int .i64 (atD l q.p).tn, .int .i64 (atD l q.p).tl, .string (atD l q.p).data] 46)).heap.size := by rw [World.size_alloc]; omega
      generalize w2.alloc (.cells #[.int .i64 (atD l q.p).num, .int .i64 (atD l q.p).fn, .int .i64 (atD l q.p).fl, .int .i64 (atD l q.p).tn, .int .i64 (atD l q.p).tl, .string (atD l q.p).data] 46) = w3 at *
      have HDL : Hid (w.heap.size ≤ w2.heap.size) := HL2.out.size
      clear HM2 HL2 HOB o0 o1 o2 o3 o4 o5 o6 o7
      go_cut [10] (fun u10 wc => Hid (Mid w gs cs gg cg n w2.heap.size sl u10 wc))
      case first =>
        obtain ⟨o0, o1, o2, o3, o4, o5, o6, o7⟩ := eight_of HOB3.out
        by_cases hk1 : (q.k == 1) = true
        · go_wp2_with fail
          refine (send_any HM3.out.bag q.fn q.fl q.tn q.tl q.data (by omega) (by omega) (by omega)).mono ?_
          rintro e' w4 ⟨rfl, v4, hB4, hM4⟩
          have HOB4 : Hid (w4.heap[wr.heap.size]? = some (.cells #[.int .i64 q.k, .int .i64 q.on, .int .i64 q.p, .int .i64 q.fn, .int .i64 q.fl, .int .i64 q.tn, .int .i64 q.tl, .string q.data] 35 (0, 0))) := (hM4.block _ (by omega) HNF.out).trans HOB3.out
          have HDB4 : Hid (w4.heap[w2.heap.size]? = some (.cells #[.int .i64 (atD l q.p).num, .int .i64 (atD l q.p).fn, .int .i64 (atD l q.p).fl, .int .i64 (atD l q.p).tn, .int .i64 (atD l q.p).tl, .string (atD l q.p).data] 46 (0, 0))) := (hM4.block _ hs3 HDF.out).trans HDB.out
          have HL4 := hide (HL3.out.trans (hM4.below HL3.out.size HM3.out.bag.ftlow))
          have HF4 := hide (ft_new hM4 hs3 HDF.out)
          have HM4 := hide (HM3.out.mv hB4 hM4)
          clear hB4 hM4 HM3 HL3 o0 o1 o2 o3 o4 o5 o6 o7
          obtain ⟨o0, o1, o2, o3, o4, o5, o6, o7⟩ := eight_of HOB4.out
          obtain ⟨⟨d0, d1, d2, d3, d4, d5⟩, dz⟩ := six_of HDB4.out
          go_wp2_with fail
          go_meet
          case rel => exact ⟨⟨0, q.fn, q.fl, q.tn, q.tl, q.data⟩, v4, _, _, gl, six_set HDB4.out _ _ _ _ _ _, below_set6 HL4.out HDL.out _ _ _ _ _ _, HM4.out.dset6 HF4.out HDS.out.1 HDS.out.2 _ _ _ _ _ _, HF4.out, HDS.out.1, HDS.out.2, .inr ⟨rfl, HG.out.snoc _ rfl⟩⟩
        · have hk1 : (q.k == 1) = false := by simpa using hk1
          have hatD : ∀ (x : Dg), Hid (∀ W, (binOp .neq 46 (.agg #[.int .i64 x.num, .int .i64 x.fn, .int .i64 x.fl, .int .i64 x.tn, .int .i64 x.tl, .string x.data]) (.agg #[.int .i64 x.num, .int .i64 x.fn, .int .i64 x.fl, .int .i64 x.tn, .int .i64 x.tl, .string x.data])).run Try.prog W = .ok (.bool false) W) := fun x W => neqD_self x W
          by_cases hk2 : (q.k == 2) = true
          · go_wp2_with fail
            refine (take_any (p := q.p) HM3.out.bag).mono ?_
            rintro e' w4 ⟨rfl, v4, hB4, hM4⟩
            have HDB4 : Hid (w4.heap[w2.heap.size]? = some (.cells #[.int .i64 (atD l q.p).num, .int .i64 (atD l q.p).fn, .int .i64 (atD l q.p).fl, .int .i64 (atD l q.p).tn, .int .i64 (atD l q.p).tl, .string (atD l q.p).data] 46 (0, 0))) := (hM4.block _ hs3 HDF.out).trans HDB.out
            have HL4 := hide (HL3.out.trans (hM4.below HL3.out.size HM3.out.bag.ftlow))
            have HF4 := hide (ft_new hM4 hs3 HDF.out)
            have HM4 := hide (HM3.out.mv hB4 hM4)
            clear hB4 hM4 HM3 HL3 o0 o1 o2 o3 o4 o5 o6 o7
            go_upto_region 26 with fail
            have HDB5 : Hid ((w4.alloc (.cells #[.int .i64 (atD l q.p).num, .int .i64 (atD l q.p).fn, .int .i64 (atD l q.p).fl, .int .i64 (atD l q.p).tn, .int .i64 (atD l q.p).tl, .string (atD l q.p).data] 46)).heap[w2.heap.size]? = some (.cells #[.int .i64 (atD l q.p).num, .int .i64 (atD l q.p).fn, .int .i64 (atD l q.p).fl, .int .i64 (atD l q.p).tn, .int .i64 (atD l q.p).tl, .string (atD l q.p).data] 46 (0, 0))) := (Below.heap_alloc w4 _ _ (lt_of_block HDB4.out)).trans HDB4.out
            have HX5 : Hid ((w4.alloc (.cells #[.int .i64 (atD l q.p).num, .int .i64 (atD l q.p).fn, .int .i64 (atD l q.p).fl, .int .i64 (atD l q.p).tn, .int .i64 (atD l q.p).tl, .string (atD l q.p).data] 46)).heap[w4.heap.size]? = some (.cells #[.int .i64 (atD l q.p).num, .int .i64 (atD l q.p).fn, .int .i64 (atD l q.p).fl, .int .i64 (atD l q.p).tn, .int .i64 (atD l q.p).tl, .string (atD l q.p).data] 46 (0, 0))) := heap_alloc_new w4 _
            have HL5 := hide (HL4.out.alloc HL4.out.size (.cells #[.int .i64 (atD l q.p).num, .int .i64 (atD l q.p).fn, .int .i64 (atD l q.p).fl, .int .i64 (atD l q.p).tn, .int .i64 (atD l q.p).tl, .string (atD l q.p).data] 46))
            have HM5 := hide (HM4.out.alloc (.cells #[.int .i64 (atD l q.p).num, .int .i64 (atD l q.p).fn, .int .i64 (atD l q.p).fl, .int .i64 (atD l q.p).tn, .int .i64 (atD l q.p).tl, .string (atD l q.p).data] 46))
            generalize w4.alloc (.cells #[.int .i64 (atD l q.p).num, .int .i64 (atD l q.p).fn, .int .i64 (atD l q.p).fl, .int .i64 (atD l q.p).tn, .int .i64 (atD l q.p).tl, .string (atD l q.p).data] 46) = W5 at *
            clear HDB4 HL4 HM4
            obtain ⟨⟨d0, d1, d2, d3, d4, d5⟩, dz⟩ := six_of HDB5.out
            obtain ⟨⟨x0, x1, x2, x3, x4, x5⟩, xz⟩ := six_of HX5.out
            have hq := (hatD (atD l q.p)).out
            have hgd : ∀ x y w, (eqGuard .neq 46 x y (.agg #[.int .i64 (atD l q.p).num, .int .i64 (atD l q.p).fn, .int .i64 (atD l q.p).fl, .int .i64 (atD l q.p).tn, .int .i64 (atD l q.p).tl, .string (atD l q.p).data]) (.agg #[.int .i64 (atD l q.p).num, .int .i64 (atD l q.p).fn, .int .i64 (atD l q.p).fl, .int .i64 (atD l q.p).tn, .int .i64 (atD l q.p).tl, .string (atD l q.p).data])).run Try.prog w = .ok () w := fun x y w => guardD _ _ _ _ _ w
            clear hatD
            by_cases hp : 0 ≤ q.p ∧ q.p < (l.length : Int)
            · obtain ⟨j, hj, hnum, hgj, hG', he⟩ := take_facts HG.out q.p hp
              have hjn : j < n := by rw [← HN.out, HG.out.len]; exact hj
              have hjt : (atD l q.p).num.toNat - 1 = j := by omega
              have y0 : decide ((atD l q.p).num < 1) = false := by simp; omega
              have y1 : decide ((n : Int) < (atD l q.p).num) = false := by simp; omega
              have y2 : (0 : Int) ≤ (atD l q.p).num - 1 := by omega
              have y3 : (atD l q.p).num - 1 < (n : Int) := by omega
              have y4 : 1 ≤ (atD l q.p).num := by omega
              have y5 : (atD l q.p).num ≤ 9223372036854775807 := by omega
              have hgc := HM5.out.gcell hj
              rw [show gl[j] = false by rw [List.getElem?_eq_getElem hj] at hgj; injection hgj, ← hjt] at hgc
              obtain ⟨g0, g1⟩ := hgc
              have HR : Hid (Mid w gs cs gg cg n w2.heap.size sl (.int .i64 0) (W5.setCell ⟨gg, (atD l q.p).num.toNat - 1, none⟩ (.bool true))) := by
                rw [hjt]
                exact ⟨atD l q.p, v4, _, _, gl.set j true, (Below.heap_setCell W5 ⟨gg, j, none⟩ _ _ HDS.out.2).trans HDB5.out, HL5.out.setCell HM5.out.ltg.1 _, HM5.out.gset (by rw [← HG.out.len]; exact HN.out), HF4.out, HDS.out.1, HDS.out.2, .inl ⟨rfl, hG'⟩⟩
              clear hG' hgj hnum hjt hp hj hjn
              go_wp2_with fail
              go_meet
              case rel => exact HR
            · obtain ⟨e1, he⟩ := take_not (l := l) q.p hp
              have HR : Hid (Mid w gs cs gg cg n w2.heap.size sl (.int .i64 0) W5) := ⟨atD l q.p, v4, _, _, gl, HDB5.out, HL5.out, HM5.out, HF4.out, HDS.out.1, HDS.out.2, .inl ⟨rfl, by rw [e1]; exact HG.out⟩⟩
              clear e1 hp
              go_wp2_with fail
              go_meet
              case rel => exact HR
          · have hk2 : (q.k == 2) = false := by simpa using hk2
            by_cases hk3 : (q.k == 3) = true
            · clear hatD
              go_wp2_with fail
              refine (drop_any (p := q.p) HM3.out.bag).mono ?_
              rintro e' W5 ⟨rfl, v4, hB4, hM4⟩
              have HDB5 : Hid (W5.heap[w2.heap.size]? = some (.cells #[.int .i64 (atD l q.p).num, .int .i64 (atD l q.p).fn, .int .i64 (atD l q.p).fl, .int .i64 (atD l q.p).tn, .int .i64 (atD l q.p).tl, .string (atD l q.p).data] 46 (0, 0))) := (hM4.block _ hs3 HDF.out).trans HDB.out
              have HL5 := hide (HL3.out.trans (hM4.below HL3.out.size HM3.out.bag.ftlow))
              have HF4 := hide (ft_new hM4 hs3 HDF.out)
              have HM5 := hide (HM3.out.mv hB4 hM4)
              clear hB4 hM4 HM3 HL3 o0 o1 o2 o3 o4 o5 o6 o7
              obtain ⟨⟨d0, d1, d2, d3, d4, d5⟩, dz⟩ := six_of HDB5.out
              by_cases hp : 0 ≤ q.p ∧ q.p < (l.length : Int)
              · obtain ⟨j, hj, hnum, hgj, hG', he⟩ := take_facts HG.out q.p hp
                have hjn : j < n := by rw [← HN.out, HG.out.len]; exact hj
                have hjt : (atD l q.p).num.toNat - 1 = j := by omega
                have y0 : decide ((atD l q.p).num < 1) = false := by simp; omega
                have y1 : decide ((n : Int) < (atD l q.p).num) = false := by simp; omega
                have y2 : (0 : Int) ≤ (atD l q.p).num - 1 := by omega
                have y3 : (atD l q.p).num - 1 < (n : Int) := by omega
                have y4 : 1 ≤ (atD l q.p).num := by omega
                have y5 : (atD l q.p).num ≤ 9223372036854775807 := by omega
                have hgc := HM5.out.gcell hj
                rw [show gl[j] = false by rw [List.getElem?_eq_getElem hj] at hgj; injection hgj, ← hjt] at hgc
                obtain ⟨g0, g1⟩ := hgc
                have HR : Hid (Mid w gs cs gg cg n w2.heap.size sl (.int .i64 0) (W5.setCell ⟨gg, (atD l q.p).num.toNat - 1, none⟩ (.bool true))) := by
                  rw [hjt]
                  exact ⟨atD l q.p, v4, _, _, gl.set j true, (Below.heap_setCell W5 ⟨gg, j, none⟩ _ _ HDS.out.2).trans HDB5.out, HL5.out.setCell HM5.out.ltg.1 _, HM5.out.gset (by rw [← HG.out.len]; exact HN.out), HF4.out, HDS.out.1, HDS.out.2, .inl ⟨rfl, hG'⟩⟩
                clear hG' hgj hnum hjt hp hj hjn
                go_wp2_with fail
                go_meet
                case rel => exact HR
              · obtain ⟨e1, he⟩ := take_not (l := l) q.p hp
                have HR : Hid (Mid w gs cs gg cg n w2.heap.size sl (.int .i64 0) W5) := ⟨atD l q.p, v4, _, _, gl, HDB5.out, HL5.out, HM5.out, HF4.out, HDS.out.1, HDS.out.2, .inl ⟨rfl, by rw [e1]; exact HG.out⟩⟩
                clear e1 hp
                go_wp2_with fail
                go_meet
                case rel => exact HR
            · have hk3 : (q.k == 3) = false := by simpa using hk3
              clear hatD
              go_wp2_with fail
              refine (dup_any (p := q.p) HM3.out.bag (by omega) (by omega) (by omega)).mono ?_
              rintro e' w4 ⟨rfl, v4, hB4, hM4⟩
              have HDB4 : Hid (w4.heap[w2.heap.size]? = some (.cells #[.int .i64 (atD l q.p).num, .int .i64 (atD l q.p).fn, .int .i64 (atD l q.p).fl, .int .i64 (atD l q.p).tn, .int .i64 (atD l q.p).tl, .string (atD l q.p).data] 46 (0, 0))) := (hM4.block _ hs3 HDF.out).trans HDB.out
              have HL4 := hide (HL3.out.trans (hM4.below HL3.out.size HM3.out.bag.ftlow))
              have HF4 := hide (ft_new hM4 hs3 HDF.out)
              have HM4 := hide (HM3.out.mv hB4 hM4)
              clear hB4 hM4 HM3 HL3 o0 o1 o2 o3 o4 o5 o6 o7
              by_cases hp : atE l q.p = 0
              · simp only [if_pos hp] at HM4 ⊢
                have HP := hide hp
                clear hp
                go_wp2_with fail
                go_meet
                case rel => exact ⟨atD l q.p, v4, _, _, gl, HDB4.out, HL4.out, HM4.out, HF4.out, HDS.out.1, HDS.out.2, .inr ⟨rfl, HG.out.snoc _ rfl⟩⟩
              · simp only [if_neg hp] at HM4 ⊢
                have HP := hide hp
                clear hp
                go_wp2_with fail
                go_meet
                case rel => exact ⟨atD l q.p, v4, _, _, gl, HDB4.out, HL4.out, HM4.out, HF4.out, HDS.out.1, HDS.out.2, .inl ⟨rfl, HG.out⟩⟩
      case rest =>
        obtain ⟨dd, v', l', s', gl', hD, hL, hM, hF, hg1, hg2, hc⟩ := hcut.out
        clear hcut HM3 HL3 HDB HOB3 HDF HNF HDS
        rcases hc with ⟨rfl, hG⟩ | ⟨rfl, hG⟩
        · have HM5 := hide hM
          have HL5 := hide hL
          have HG5 := hide hG
          clear hD hL hM hF hg1 hg2 hG
          go_wp2_with fail
          go_roundg (gk - 1)
          case measure => have := HK.out; omega
          case rel => exact ⟨i + 1, gs, cs, gg, cg, n, v', l', sl, gl', s', (by show gk - 1 + (i + 1) = len; have := HK.out; omega), rfl, rfl, by go_num, by omega, by omega, HN, HM5, HG5, HL5⟩
        · have HM5 := hide (hM.dset hF hg1 hg2 0 (.int .i64 ((n : Int) + 1)))
          have HL5 := hide (hL.setCell (p := ⟨w2.heap.size, 0, none⟩) HDL.out (.int .i64 ((n : Int) + 1)))
          have HG5 := hide hG
          have HD5 : Hid ((wc.setCell ⟨w2.heap.size, 0, none⟩ (.int .i64 ((n : Int) + 1))).heap[w2.heap.size]? = some (.cells #[.int .i64 ((n : Int) + 1), .int .i64 dd.fn, .int .i64 dd.fl, .int .i64 dd.tn, .int .i64 dd.tl, .string dd.data] 46 (0, 0))) := heap_setCell_self wc w2.heap.size 0 _ _ _ _ hD
          obtain ⟨⟨d0, d1, d2, d3, d4, d5⟩, dz⟩ := six_of hD
          have hpos : decide ((0 : Int) < (n : Int) + 1) = true := by simp <;> omega
          clear hD hL hM hF hg1 hg2 hG
          go_upto_region 37 with fail
          generalize wc.setCell ⟨w2.heap.size, 0, none⟩ (.int .i64 ((n : Int) + 1)) = W5 at *
          clear d0 d1 d2 d3 d4 d5 dz hpos
          obtain ⟨⟨d0, d1, d2, d3, d4, d5⟩, dz⟩ := six_of HD5.out
          obtain ⟨i0, hi0, hz0, hz1, hz2⟩ := info_parts Try.infoD
          go_upto_region 38 with (at_builtin; refine wpList_append_lies _ rfl _ _ 28 rfl w.heap.size 46 i0 (.agg #[.int .i64 0, .int .i64 0, .int .i64 0, .int .i64 0, .int .i64 0, .string ByteArray.empty]) 6 56 Try.underlying28 hi0 hz0 hz1 hz2 rfl (by decide) (.slice (some ⟨gs, 0, none⟩) n cs) n (dcs sl) rfl (HM5.out.alloc _).srow ⟨W5.heap.size, 0, none⟩ 1 1 [.int .i64 ((n : Int) + 1), .int .i64 dd.fn, .int .i64 dd.fl, .int .i64 dd.tn, .int .i64 dd.tl, .string dd.data] rfl rfl (World.news_of_block (cs := #[.int .i64 ((n : Int) + 1), .int .i64 dd.fn, .int .i64 dd.fl, .int .i64 dd.tn, .int .i64 dd.tl, .string dd.data]) (heap_alloc_new W5 _)) (by simp [Value.oneCell']) (by decide) (by unfold maxLen; omega) (by omega) (by rw [World.size_alloc]; have := HL5.out.size; omega) (W5.heap.size + 1) (World.size_alloc _ _) ?_; intro g6 c6 w6 hown6 hgrow6 hat6 hlt6)
          have hS6 := (HM5.out.alloc (.cells #[.int .i64 ((n : Int) + 1), .int .i64 dd.fn, .int .i64 dd.fl, .int .i64 dd.tn, .int .i64 dd.tl, .string dd.data] 46)).sapp (d := { dd with num := (n : Int) + 1 }) hown6 hgrow6 (by rw [World.size_alloc]; exact hat6)
          have HL6 := hide ((HL5.out.alloc HL5.out.size (.cells #[.int .i64 ((n : Int) + 1), .int .i64 dd.fn, .int .i64 dd.fl, .int .i64 dd.tn, .int .i64 dd.tl, .string dd.data] 46)).trans (grown_below hgrow6 (by rw [World.size_alloc]; exact Nat.le_succ_of_le HL5.out.size) (fun k hk => by simp only [Value.ownBlock] at hk; injection hk with hk; rw [← hk]; exact HM5.out.lts.1)))
          obtain ⟨B6, R6, G6, f6, f6', n6⟩ := hS6
          have HB6 := hide B6
          have HR6 := hide R6
          have HGG6 := hide G6
          have HF6 := hide f6
          have HF6' := hide f6'
          have HN6 := hide n6
          clear B6 R6 G6 f6 f6' n6 hown6 hgrow6 hat6 hlt6 d0 d1 d2 d3 d4 d5 dz hi0 hz0 hz1 hz2 i0
          obtain ⟨i1, hi1, hy0, hy1, hy2⟩ := info_parts Try.infoBo
          go_upto_region 39 with (at_builtin; refine wpList_append_lies _ rfl _ _ 55 rfl w.heap.size 4 i1 (.bool false) 1 1 Try.underlying55 hi1 hy0 hy1 hy2 rfl (by decide) (.slice (some ⟨gg, 0, none⟩) n cg) n (gl'.map Value.bool) rfl (HGG6.out.alloc _) ⟨w6.heap.size, 0, none⟩ 1 1 [.bool false] rfl rfl (World.news_of_block (cs := #[.bool false]) (heap_alloc_new w6 _)) (by simp [Value.oneCell']) (by decide) (by unfold maxLen; omega) (by omega) (by rw [World.size_alloc]; have := HL6.out.size; omega) (w6.heap.size + 1) (World.size_alloc _ _) ?_; intro g7 c7 w7 hown7 hgrow7 hat7 hlt7)
          have HM7 := hide (mem3_gapp (HB6.out.alloc (.cells #[.bool false] 4)) (HR6.out.alloc _) HF6.out HF6'.out HN6.out hown7 hgrow7 (by rw [World.size_alloc]; exact hat7))
          have HL7 := hide ((HL6.out.alloc HL6.out.size (.cells #[.bool false] 4)).trans (grown_below hgrow7 (by rw [World.size_alloc]; exact Nat.le_succ_of_le HL6.out.size) (fun k hk => by simp only [Value.ownBlock] at hk; injection hk with hk; rw [← hk]; exact HM5.out.ltg.1)))
          clear hown7 hgrow7 hat7 hlt7 HB6 HR6 HGG6 HF6 HF6' HN6 HL6 hi1 hy0 hy1 hy2 i1
          go_wp2_with fail
          go_roundg (gk - 1)
          case measure => have := HK.out; omega
          case rel => exact ⟨i + 1, g6, c6, g7, c7, n + 1, v', l', sl ++ [{ dd with num := (n : Int) + 1 }], gl' ++ [false], s', (by show gk - 1 + (i + 1) = len; have := HK.out; omega), rfl, rfl, by go_num, by omega, by omega, (by show (sl ++ [_]).length = n + 1; rw [List.length_append, HN.out]; rfl), HM7, HG5, HL7⟩
    · obtain rfl : i = len := by omega
      have b0 : decide ((i : Int) < (i : Int)) = false := by simp
      clear hi
      go_wp2_with fail
      go_loopg [16, 17] n (fun gj u16 u17 wz => ∃ (k : Nat), Hid (gj + k = n) ∧ u16 = .int .i64 ((alive (sl.take k) (gl.take k)).length : Int) ∧ u17 = .int .i64 (k : Int) ∧ k ≤ n ∧ Hid (Mem3 w.heap.size wz w.heap.size v l s gs cs gg cg n sl gl) ∧ Hid (Below w.heap.size w wz))
      case atStart => exact ⟨0, (by show n + 0 = n; rfl), rfl, rfl, Nat.zero_le _, HM, HL⟩
      case round =>
        obtain ⟨k, HK2, rfl, rfl, hkn, HM2, HL2⟩ := hrel
        clear HM HL b0
        have hgl : gl.length = n := by rw [← HG.out.len]; exact HN.out
        by_cases hk : k < n
        · have hkg : k < gl.length := by omega
          have hks : k < sl.length := by rw [HN.out]; exact hk
          obtain ⟨g0, _⟩ := HM2.out.gcell hkg
          have hk3 : (k : Int) < (n : Int) := by omega
          by_cases hb : gl[k] = true
          · rw [hb] at g0
            have HA := hide (alive_skip sl gl k HG.out.len hks hb)
            clear hb hgl
            go_wp2_with fail
            go_roundg (gk - 1)
            case measure => have := HK2.out; omega
            case rel => exact ⟨k + 1, (by show gk - 1 + (k + 1) = n; have := HK2.out; omega), by rw [HA.out], by go_num, by omega, HM2, HL2⟩
          · have hb : gl[k] = false := by simpa using hb
            rw [hb] at g0
            obtain ⟨ha1, ha2⟩ := alive_at sl gl k HG.out.len hks hb
            rw [← HG.out.liv] at ha1
            have HA := hide ha2
            have hpl : (alive (sl.take k) (gl.take k)).length < l.length := (List.getElem?_eq_some_iff.1 ha1).1
            have hpe : l[(alive (sl.take k) (gl.take k)).length]'hpl = sl[k] := (List.getElem?_eq_some_iff.1 ha1).2
            have hpc : (0 : Int) ≤ ((alive (sl.take k) (gl.take k)).length : Int) ∧ ((alive (sl.take k) (gl.take k)).length : Int) < (l.length : Int) := ⟨by omega, by omega⟩
            have e1 : atD l ((alive (sl.take k) (gl.take k)).length : Int) = sl[k] := by unfold atD; rw [if_pos hpc, Int.toNat_natCast, List.getD_eq_getElem?_getD, List.getElem?_eq_getElem hpl, hpe]; rfl
            have e2 : atE l ((alive (sl.take k) (gl.take k)).length : Int) = 0 := by unfold atE; rw [if_pos hpc]
            have H6 := hide (HM2.out.six hks)
            have hplen : (alive (sl.take k) (gl.take k)).length ≤ k := by have := alive_len (sl.take k) (gl.take k); rw [List.length_take] at this; omega
            have HAT := hide (at_any (p := ((alive (sl.take k) (gl.take k)).length : Int)) HM2.out.bag)
            rw [e1, e2] at HAT
            clear hpe ha1 ha2 e1 e2 hpc hb hgl
            generalize hx : sl[k] = x at *
            have HX := hide hx
            clear hx
            generalize (alive (sl.take k) (gl.take k)).length = pl at *
            go_wp2_with fail
            refine HAT.out.mono ?_
            rintro e w3 ⟨rfl, hb3⟩
            have HM3 := hide ((HM2.out.below hb3).alloc (.cells #[.int .i64 x.num, .int .i64 x.fn, .int .i64 x.fl, .int .i64 x.tn, .int .i64 x.tl, .string x.data] 46))
            have HL3 := hide ((below_of HL2.out hb3).alloc (below_of HL2.out hb3).size (.cells #[.int .i64 x.num, .int .i64 x.fn, .int .i64 x.fl, .int .i64 x.tn, .int .i64 x.tl, .string x.data] 46))
            have HD3 := hide (heap_alloc_new w3 (.cells #[.int .i64 x.num, .int .i64 x.fn, .int .i64 x.fl, .int .i64 x.tn, .int .i64 x.tl, .string x.data] 46))
            clear hb3 HAT HM2 HL2 H6 g0
            go_upto_region 47 with fail
            generalize w3.alloc (.cells #[.int .i64 x.num, .int .i64 x.fn, .int .i64 x.fl, .int .i64 x.tn, .int .i64 x.tl, .string x.data] 46) = W3 at *
            have H6 := HM3.out.six hks
            rw [HX.out] at H6
            obtain ⟨s0, s1, s2, s3, s4, s5⟩ := H6
            obtain ⟨⟨d0, d1, d2, d3, d4, d5⟩, dz⟩ := six_of HD3.out
            have hq : ∀ W, (binOp .neq 46 (.agg #[.int .i64 x.num, .int .i64 x.fn, .int .i64 x.fl, .int .i64 x.tn, .int .i64 x.tl, .string x.data]) (.agg #[.int .i64 x.num, .int .i64 x.fn, .int .i64 x.fl, .int .i64 x.tn, .int .i64 x.tl, .string x.data])).run Try.prog W = .ok (.bool false) W := fun W => neqD_self x W
            have hgd : ∀ y z w, (eqGuard .neq 46 y z (.agg #[.int .i64 x.num, .int .i64 x.fn, .int .i64 x.fl, .int .i64 x.tn, .int .i64 x.tl, .string x.data]) (.agg #[.int .i64 x.num, .int .i64 x.fn, .int .i64 x.fl, .int .i64 x.tn, .int .i64 x.tl, .string x.data])).run Try.prog w = .ok () w := fun y z w => guardD _ _ _ _ _ w
            clear dz
            go_quiet (fail)
            go_wp2_with fail
            go_roundg (gk - 1)
            case measure => have := HK2.out; omega
            case rel => exact ⟨k + 1, (by show gk - 1 + (k + 1) = n; have := HK2.out; omega), by rw [HA.out]; go_num, by go_num, by omega, HM3.out.heap rfl, ⟨HL3.out.os, HL3.out.tape, HL3.out.output, HL3.out.size, HL3.out.block⟩⟩
        · obtain rfl : k = n := by omega
          have b1 : decide ((k : Int) < (k : Int)) = false := by simp
          have hal : (alive (sl.take k) (gl.take k)).length = l.length := by rw [HG.out.liv, List.take_of_length_le (by rw [HN.out]; exact Nat.le_refl _), List.take_of_length_le (by omega)]
          have hss : s = (k : Int) := by rw [← HN.out]; exact HG.out.cnt
          rw [hal]
          subst hss
          clear hal hk hgl
          go_wp2_with (first
            | (go_at_call 18; refine (len_any HM2.out.bag).mono ?_; rintro e w6 ⟨rfl, rfl⟩)
            | (go_at_call 20; refine (sent_any HM2.out.bag).mono ?_; rintro e w6 ⟨rfl, rfl⟩))
          go_ret
          exact ⟨rfl, HL2.out⟩
end Go.Proofs.Ytnbmgddkaclneaa
