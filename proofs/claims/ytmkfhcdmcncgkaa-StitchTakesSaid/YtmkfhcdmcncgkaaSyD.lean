import Derived.Test.YtmkfhcdmcncgkaaSyC
namespace Go.Proofs.Ytmkfhcdmcncgkaa
open Go.RowKit Go.Shelf

/-- a stitcher and the document's -/
structure Pp where
  b : Nat
  m : Nat
  x : Nat
  s : Sw
structure Pr (w : World) (p : Pp) : Prop where
  sb : Sb w p.b p.m p.s
  ok : p.s.ok
  xs : Xs w p.x p.s
/-- three blocks may turn -/
structure M3 (b m x : Nat) (w w' : World) : Prop where
  os : w'.os = w.os
  tape : w'.tape = w.tape
  output : w'.output = w.output
  size : w.heap.size ≤ w'.heap.size
  block : ∀ k, k < w.heap.size → k ≠ b → k ≠ m → k ≠ x → w'.heap[k]? = w.heap[k]?
theorem M3.of_mv {b m x : Nat} {w w' : World} (h : Mv b m w w') : M3 b m x w w' := ⟨h.os, h.tape, h.output, h.size, fun k hk h1 h2 _ => h.block k hk h1 h2⟩
theorem M3.of_grown {b m x : Nat} {w w' : World} (h : w.grownBy w' (some x)) : M3 b m x w w' := ⟨h.os, h.tape, h.output, h.size, fun k hk _ _ h3 => h.block k hk (fun e => h3 (by cases e; rfl))⟩
theorem M3.of_below {b m x : Nat} {w w' : World} (h : Below w.heap.size w w') : M3 b m x w w' := ⟨h.os, h.tape, h.output, h.size, fun k hk _ _ _ => h.block k hk⟩
theorem M3.trans {b m x : Nat} {u v w : World} (h : M3 b m x u v) (k : M3 b m x v w) : M3 b m x u w :=
  ⟨k.os.trans h.os, k.tape.trans h.tape, k.output.trans h.output, Nat.le_trans h.size k.size, fun i hi h1 h2 h3 => (k.block i (Nat.lt_of_lt_of_le hi h.size) h1 h2 h3).trans (h.block i hi h1 h2 h3)⟩
/-- what has been made since may turn, too -/
theorem M3.low {b m x : Nat} {u v w : World} (h : M3 b m x u v) (k : Below u.heap.size v w) : M3 b m x u w :=
  ⟨k.os.trans h.os, k.tape.trans h.tape, k.output.trans h.output, Nat.le_trans h.size k.size, fun i hi h1 h2 h3 => (k.block i hi).trans (h.block i hi h1 h2 h3)⟩
theorem M3.below {b m x : Nat} {w w' : World} (h : M3 b m x w w') {B : Nat} (hB : B ≤ w.heap.size) (h1 : B ≤ b) (h2 : B ≤ m) (h3 : B ≤ x) : Below B w w' := ⟨h.os, h.tape, h.output, h.size, fun k hk => h.block k (by omega) (by omega) (by omega) (by omega)⟩
section
variable {w w' : World} {p : Pp}
theorem Pr.below (h : Pr w p) (hb : Below w.heap.size w w') : Pr w' p := ⟨h.sb.below hb, h.ok, h.xs.below hb⟩
theorem Pr.lt (h : Pr w p) : p.b < w.heap.size ∧ p.m < w.heap.size ∧ p.x < w.heap.size := ⟨h.sb.lt, h.sb.map.lt, h.xs.lt⟩
theorem Pr.bx (h : Pr w p) : p.b ≠ p.x := fun e => by
  obtain ⟨cs, h1⟩ := h.xs.blk
  have h2 := h.sb.blk
  rw [e, h1] at h2
  cases h2
theorem Pr.mx (h : Pr w p) : p.m ≠ p.x := fun e => by
  obtain ⟨cs, h1⟩ := h.xs.blk
  obtain ⟨es, c, h2⟩ := h.sb.map.block
  rw [e, h1] at h2
  cases h2
end
theorem set_row {w : World} {g i : Nat} {u : Value} {cur : Array Value} {e : TypeId} {fr : Nat × Nat} (h : w.heap[g]? = some (.cells cur e fr)) : (w.setCell ⟨g, i, none⟩ u).heap[g]? = some (.cells (cur.setIfInBounds i u) e fr) := by
  simp only [World.setCell, Array.getElem?_modify]
  rw [h]
  simp
theorem own_put1 {w : World} {base g n c : Nat} {e : TypeId} {xs : List Value} (h : w.ownsRow base e 1 (.slice (some ⟨g, 0, none⟩) n c) n xs) (i : Nat) (u : Value) : (w.setCell ⟨g, i, none⟩ u).ownsRow base e 1 (.slice (some ⟨g, 0, none⟩) n c) n (xs.set i u) := by
  rcases h.2 with ⟨h1, _⟩ | ⟨g', cap, cur, h1, hb, hgg, hn, hm, hc, ht⟩
  · cases h1
  · injection h1 with h1 _ h3
    injection h1 with h1
    injection h1 with h1
    subst h1; subst h3
    refine ⟨by rw [List.length_set]; exact h.1, .inr ⟨g, c, cur.setIfInBounds i u, rfl, hb, set_row hgg, hn, hm, by simpa using hc, ?_⟩⟩
    rw [← ht, Array.toList_setIfInBounds, List.take_set]
theorem own_z {w : World} {base n c g : Nat} {e : TypeId} {xs : List Value} (h : w.ownsRow base e 1 (.slice (some ⟨g, 0, none⟩) n c) n xs) (i : Nat) : w.frozen? ⟨g, i, none⟩ = false := by
  obtain ⟨cs, hg⟩ := own_type h g rfl
  simp [World.frozen?, hg]
theorem set_get {xs : List Value} {i j : Nat} {u : Value} (h : i < j) : (xs.set i u)[j]? = xs[j]? := List.getElem?_set_ne (by omega)

set_option maxRecDepth 8000 in
set_option maxHeartbeats 8000000 in
theorem stands_any {w : World} {p : Pp} (h : Pr w p) : Calls Try.prog 11 #[.pointer (some ⟨p.b, 0, none⟩), .pointer (some ⟨p.x, 0, none⟩)] w fun e w' => e = .returned (.bool true) ∧ Below w.heap.size w w' := by
  have HP := hide h
  have hl8 := h.ok.len8
  obtain ⟨iN, hiN, zN0, zN1, zN2⟩ := info_parts Try.infoN
  obtain ⟨N, hN⟩ : ∃ N, p.s.L.length = N := ⟨_, rfl⟩
  obtain ⟨z0, hz0⟩ : ∃ z0, nos p.s.L = z0 := ⟨_, rfl⟩
  have HNl : Hid (z0.length = N) := hide (by rw [← hz0, ← hN]; simp [nos])
  clear h
  go_enter Try.func11, Try.ntmps11
  go_wp2_with fail
  refine (held_any HP.out.sb (by omega)).mono ?_
  rintro e w1 ⟨v1, rfl, hr1, hb1⟩
  rw [hN, hz0] at hr1
  have HR1 := hide hr1
  have HP1 := hide (HP.out.below hb1)
  have HB1 := hide hb1
  obtain ⟨ad1, cap1, hv1⟩ := own_slice hr1
  subst hv1
  clear hr1 hb1
  go_wp2_with fail
  obtain ⟨H, T, hX, hLk⟩ := HP1.out.xs
  refine (rnums_any hX hLk HP1.out.ok.rise (fun y hy => by have := HP1.out.ok.all y hy; have := HP1.out.ok.n0; omega)).mono ?_
  rintro e w2 ⟨v2, rfl, hr2, hb2⟩
  rw [hN, hz0] at hr2
  have HR2 := hide hr2
  have HR1b := hide (own_below HR1.out hb2)
  have HP2 := hide (HP1.out.below hb2)
  have HB2 := hide (below_of HB1.out hb2)
  have HSz : Hid (w.heap.size ≤ w1.heap.size) := HB1.out.size
  have HD1 : Hid (∀ g, (Value.slice ad1 N cap1).ownBlock = some g → g < w1.heap.size) := hide fun g e => (HR1.out.lt g e).2
  have HL2 : Hid (p.m < w.heap.size ∧ p.b < w.heap.size) := hide ⟨HP.out.lt.2.1, HP.out.lt.1⟩
  have c1 := (hX.below hb2).c1
  obtain ⟨ad2, cap2, hv2⟩ := own_slice hr2
  subst hv2
  have HNx : Hid (∀ n, Calls Try.prog 14 #[.pointer (some ⟨p.b, 0, none⟩)] (w2.drewN n) fun e w' => e = .returned (.int .i64 p.s.nxt) ∧ w' = w2.drewN n) := hide fun n => next_any (HP2.out.sb.below (below_drewN w2 n))
  generalize w1.heap.size = Z2 at HR2 HD1 HSz
  clear hr2 hb2 HR1 HP1 HB1 HP hX hLk hz0
  go_wp2_with fail
  go_quiet ((go_at_call 14; exact Calls.quiet_of_same (HNx.out _)))
  have HR1 := hide (own_below HR1b.out (below_drewN w2 nq))
  have HR2b := hide (own_below HR2.out (below_drewN w2 nq))
  have HP3 := hide (HP2.out.below (below_drewN w2 nq))
  have HB3 := hide (below_of HB2.out (below_drewN w2 nq))
  clear HR1b HR2 HP2 HB2 HNx c1
  generalize w2.drewN nq = w3 at HR1 HR2b HP3 HB3 ⊢
  go_wp2_with fail
  go_loopw [7] (fun t wr => ∃ i : Nat, t = .int .i64 (i : Int) ∧ i ≤ N ∧ Hid (∃ xs, wr.ownsRow w.heap.size 3 1 (.slice ad1 N cap1) N xs ∧ ∀ j z, i ≤ j → z0[j]? = some z → xs[j]? = some (encZ z)) ∧ Hid (wr.ownsRow Z2 3 1 (.slice ad2 N cap2) N (z0.map encZ)) ∧ Hid (Below w.heap.size w3 wr)) (fun t _ => N - (intOf t).toNat)
  case atStart => exact ⟨0, rfl, Nat.zero_le _, hide ⟨_, HR1.out, fun j z _ h => by rw [List.getElem?_map, h]; rfl⟩, HR2b, hide (Below.refl _ _)⟩
  case round =>
    obtain ⟨i, rfl, hi, HX1, HX2, HX3⟩ := hrel
    obtain ⟨xs, hxs, hxg⟩ := HX1.out
    by_cases hil : i < N
    · obtain ⟨g1, cc1, hg1, hgb1, hgl1⟩ := own_at hxs (by omega)
      injection hg1 with hg1 _ hg1c
      subst hg1; subst hg1c
      obtain ⟨g2, cc2, hg2, hgb2, hgl2⟩ := own_at HX2.out (by omega)
      injection hg2 with hg2 _ hg2c
      subst hg2; subst hg2c
      obtain ⟨z, hz⟩ : ∃ z, z0[i]? = some z := ⟨_, List.getElem?_eq_getElem (by rw [HNl.out]; exact hil)⟩
      have k1 : wr.cell? ⟨g1, i, none⟩ = some (.int .i64 z) := own_cell hxs (hxg i z (Nat.le_refl _) hz)
      have k2 : wr.cell? ⟨g2, i, none⟩ = some (.int .i64 z) := own_cell HX2.out (by rw [List.getElem?_map, hz]; rfl)
      have f1 := own_z hxs i
      have hne : g1 ≠ g2 := fun e => by have h1 := HD1.out g1 rfl; omega
      have hiN8 : i < 8 := by omega
      have HY1 : Hid (∀ n, ∃ ys, ((wr.drewN n).setCell ⟨g1, i, none⟩ (.int .i64 (-1 - (i : Int)))).ownsRow w.heap.size 3 1 (.slice (some ⟨g1, 0, none⟩) N cap1) N ys ∧ ∀ j z, i + 1 ≤ j → z0[j]? = some z → ys[j]? = some (encZ z)) := hide fun n => ⟨_, own_put1 (own_below hxs (below_drewN wr n)) i _, fun j z hj h => by rw [set_get (by omega)]; exact hxg j z (by omega) h⟩
      have HY2 : Hid (∀ n, ((wr.drewN n).setCell ⟨g1, i, none⟩ (.int .i64 (-1 - (i : Int)))).ownsRow Z2 3 1 (.slice (some ⟨g2, 0, none⟩) N cap2) N (z0.map encZ)) := hide fun n => own_keep (own_below HX2.out (below_drewN wr n)) fun k e => (grown_set (wr.drewN n) g1 i _).block k (by cases e; exact hgl2) (fun e2 => by cases e; cases e2; exact hne rfl)
      have HY3 : Hid (∀ n, Below w.heap.size w3 ((wr.drewN n).setCell ⟨g1, i, none⟩ (.int .i64 (-1 - (i : Int))))) := hide fun n => (HX3.out.trans ((below_drewN wr n).mono (Nat.le_trans HB3.out.size HX3.out.size))).setCell hgb1 _
      clear hxs hxg HX1 HX2 HX3 hz hne
      go_wp2_with fail
      go_quiet (fail)
      go_wp2_with fail
      go_roundw
      case rel => exact ⟨i + 1, by go_num, by omega, hide (HY1.out nq), hide (HY2.out nq), hide (HY3.out nq)⟩
      case measure => simp only [intOf]; omega
    · have HOA : Hid ((wr.alloc (.cells #[.int .i64 (N : Int)] 3)).ownsRow w.heap.size 3 1 (.slice ad1 N cap1) N xs) := own_alloc hxs _
      have hap : Hid (∀ g, (Value.slice ad1 N cap1).ownBlock = some g → w.heap.size ≤ g) := hide fun g e => (hxs.lt g e).1
      have hN8 : N ≤ 7 := by omega
      have hsz : w.heap.size ≤ wr.heap.size := Nat.le_trans HB3.out.size HX3.out.size
      clear hxs hxg
      go_upto_region 12 with (at_builtin; refine wpList_append_lies _ rfl _ _ 44 rfl w.heap.size 3 iN (.int .i64 0) 1 8 Try.underlying44 hiN zN0 zN1 zN2 rfl (by decide) (.slice ad1 N cap1) N xs rfl HOA.out ⟨wr.heap.size, 0, none⟩ 1 1 [.int .i64 (N : Int)] rfl rfl (one_new _ _ _) (by intro u hu; simp at hu; subst hu; rfl) (by decide) (by unfold maxLen; omega) (by omega) (by rw [World.size_alloc]; omega) _ rfl ?_; intro g7 cap7 w7 hown7 hgrow7 hat7 hlt7; have HB7 := hide ((HX3.out.alloc hsz (.cells #[.int .i64 (N : Int)] 3)).grown hgrow7 (by rw [World.size_alloc]; omega) hap.out); clear hown7 hgrow7 hat7 hlt7)
      have HP7 : Hid (Sb w7 p.b p.m p.s) := hide (HP3.out.sb.keep (HB7.out.block _ HL2.out.2) (HB7.out.block _ HL2.out.1))
      have HB8 := hide (HB3.out.trans HB7.out)
      clear HX1 HX2 HX3 HOA hap HB7 HB3 HP3
      go_wp2_with fail
      refine (held_any HP7.out (by omega)).mono ?_
      rintro e w8 ⟨v8, rfl, hr8, hb8⟩
      obtain ⟨ad8, cap8, hv8⟩ := own_slice hr8
      subst hv8
      have HB9 := hide (below_of HB8.out hb8)
      rw [hN]
      clear hr8 hb8
      go_wp2_with fail
      go_ret
      exact ⟨by simp, HB9.out⟩
end Go.Proofs.Ytmkfhcdmcncgkaa
