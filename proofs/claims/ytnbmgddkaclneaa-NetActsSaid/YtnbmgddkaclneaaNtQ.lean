import Derived.Test.YtnbmgddkaclneaaNtP
import Derived.Test.YtnbmgddkaclneaaNtJ
namespace Go.Proofs.Ytnbmgddkaclneaa
open Go.RowKit

/-- a bag and the document's -/
structure Two (base : Nat) (w : World) (b : Nat) (v : Value) (l : List Dg) (s : Int) (b2 : Nat) (v2 : Value) (l2 : List Dg) (s2 : Int) : Prop where
  n : Bag 58 base w b v l s
  r : Bag 30 base w b2 v2 l2 s2
  d : ∀ k, Ft b v k → ¬ Ft b2 v2 k
def F2 (b : Nat) (v : Value) (b2 : Nat) (v2 : Value) (k : Nat) : Prop := Ft b v k ∨ Ft b2 v2 k
theorem Mv.orR {F G H : Nat → Prop} {w w' : World} (h : Mv F G w w') : Mv (fun k => F k ∨ H k) (fun k => G k ∨ H k) w w' :=
  ⟨h.os, h.tape, h.output, h.size, fun k hk hn => h.block k hk (fun hf => hn (.inl hf)), fun k hk => hk.elim (fun hg => (h.foot k hg).elim (fun x => .inl (.inl x)) .inr) (fun x => .inl (.inr x))⟩
theorem Mv.orL {F G H : Nat → Prop} {w w' : World} (h : Mv F G w w') : Mv (fun k => H k ∨ F k) (fun k => H k ∨ G k) w w' :=
  ⟨h.os, h.tape, h.output, h.size, fun k hk hn => h.block k hk (fun hf => hn (.inr hf)), fun k hk => hk.elim (fun x => .inl (.inl x)) (fun hg => (h.foot k hg).elim (fun x => .inl (.inr x)) .inr)⟩
section
variable {base : Nat} {w w' : World} {b : Nat} {v : Value} {l : List Dg} {s : Int} {b2 : Nat} {v2 : Value} {l2 : List Dg} {s2 : Int}
theorem Two.below (h : Two base w b v l s b2 v2 l2 s2) (hb : Below w.heap.size w w') : Two base w' b v l s b2 v2 l2 s2 := ⟨h.n.below hb, h.r.below hb, h.d⟩
theorem Two.alloc (h : Two base w b v l s b2 v2 l2 s2) (o : Obj) : Two base (w.alloc o) b v l s b2 v2 l2 s2 := h.below ((Below.refl _ w).alloc (Nat.le_refl _) o)
theorem Two.drew (h : Two base w b v l s b2 v2 l2 s2) : Two base w.drew b v l s b2 v2 l2 s2 := ⟨h.n.drew, h.r.drew, h.d⟩
theorem Two.lt (h : Two base w b v l s b2 v2 l2 s2) : ∀ k, F2 b v b2 v2 k → base ≤ k ∧ k < w.heap.size := fun k hk => hk.elim (h.n.ftlt k) (h.r.ftlt k)
theorem Two.stepN {v' : Value} {l' : List Dg} {s' : Int} (h : Two base w b v l s b2 v2 l2 s2) (hB : Bag 58 base w' b v' l' s') (hM : Mv (Ft b v) (Ft b v') w w') : Two base w' b v' l' s' b2 v2 l2 s2 ∧ Mv (F2 b v b2 v2) (F2 b v' b2 v2) w w' :=
  ⟨⟨hB, h.r.mv hM (fun k hk hf => h.d k hf hk), fun k hk hr => (hM.foot k hk).elim (fun x => h.d k x hr) (fun x => absurd (h.r.ftlt k hr).2 (by omega))⟩, hM.orR⟩
theorem Two.stepR {v' : Value} {l' : List Dg} {s' : Int} (h : Two base w b v l s b2 v2 l2 s2) (hB : Bag 30 base w' b2 v' l' s') (hM : Mv (Ft b2 v2) (Ft b2 v') w w') : Two base w' b v l s b2 v' l' s' ∧ Mv (F2 b v b2 v2) (F2 b v b2 v') w w' :=
  ⟨⟨h.n.mv hM (fun k hk hf => h.d k hk hf), hB, fun k hk hr => (hM.foot k hr).elim (fun x => h.d k hk x) (fun x => absurd (h.n.ftlt k hk).2 (by omega))⟩, hM.orL⟩
theorem Mv.alloc {F G : Nat → Prop} (h : Mv F G w w') (o : Obj) : Mv F G w (w'.alloc o) := h.trans (Mv.of_below ((Below.refl _ w').alloc (Nat.le_refl _) o))
end

theorem eightO {w : World} {M : Nat} {a0 a1 a2 a3 a4 a5 a6 a7 : Value} {t : TypeId} (h : w.heap[M]? = some (.cells #[a0, a1, a2, a3, a4, a5, a6, a7] t (0, 0))) :
    (w.cell? ⟨M, 0, none⟩ = some a0 ∧ w.cell? ⟨M, 1, none⟩ = some a1 ∧ w.cell? ⟨M, 2, none⟩ = some a2 ∧ w.cell? ⟨M, 3, none⟩ = some a3 ∧ w.cell? ⟨M, 4, none⟩ = some a4 ∧ w.cell? ⟨M, 5, none⟩ = some a5 ∧ w.cell? ⟨M, 6, none⟩ = some a6 ∧ w.cell? ⟨M, 7, none⟩ = some a7) := by
  refine ⟨?_, ?_, ?_, ?_, ?_, ?_, ?_, ?_⟩ <;> simp [World.cell?, h]
/-- what does leaves -/
def DPost (base : Nat) (w : World) (b : Nat) (v : Value) (l : List Dg) (s : Int) (b2 : Nat) (v2 : Value) (w' : World) : Prop :=
  ∃ v' v2' l' s', Two base w' b v' l' s' b2 v2' l' s' ∧ Mv (F2 b v b2 v2) (F2 b v' b2 v2') w w' ∧ l'.length ≤ l.length + 1 ∧ s ≤ s' ∧ s' ≤ s + 1
theorem takeL_len (l : List Dg) (p : Int) : (takeL l p).length ≤ l.length + 1 := by
  unfold takeL
  split
  · have := List.length_eraseIdx_le l p.toNat; omega
  · omega

set_option maxHeartbeats 2000000 in
set_option maxRecDepth 8000 in
theorem does_send {base : Nat} {w : World} {b b2 : Nat} {v v2 : Value} {l : List Dg} {s : Int} (h : Two base w b v l s b2 v2 l s) (hs0 : 0 ≤ s) (hs : s < 9223372036854775807) (hl : (l.length + 1) * 56 ≤ 140737488355328) (q : OpV) (hk : (q.k == 1) = true) :
    Calls Try.prog 11 #[.pointer (some ⟨b, 0, none⟩), .pointer (some ⟨b2, 0, none⟩), .agg #[.int .i64 q.k, .int .i64 q.on, .int .i64 q.p, .int .i64 q.fn, .int .i64 q.fl, .int .i64 q.tn, .int .i64 q.tl, .string q.data]] w fun e w' => e = .returned (.bool true) ∧ DPost base w b v l s b2 v2 w' := by
  have H0 := hide (h.alloc (.cells #[.int .i64 q.k, .int .i64 q.on, .int .i64 q.p, .int .i64 q.fn, .int .i64 q.fl, .int .i64 q.tn, .int .i64 q.tl, .string q.data] 35))
  have hM0 := hide ((Mv.of_below (F := F2 b v b2 v2) (Below.refl _ w)).alloc (.cells #[.int .i64 q.k, .int .i64 q.on, .int .i64 q.p, .int .i64 q.fn, .int .i64 q.fl, .int .i64 q.tn, .int .i64 q.tl, .string q.data] 35))
  have HO := hide (heap_alloc_new w (.cells #[.int .i64 q.k, .int .i64 q.on, .int .i64 q.p, .int .i64 q.fn, .int .i64 q.fl, .int .i64 q.tn, .int .i64 q.tl, .string q.data] 35))
  have hnf : ¬ F2 b v b2 v2 w.heap.size := fun e => absurd (h.lt _ e).2 (by omega)
  have HNF := hide hnf
  clear h hnf
  go_enter Try.func11, Try.ntmps11
  go_wp2_with fail
  have hsz : (w.alloc (.cells #[.int .i64 q.k, .int .i64 q.on, .int .i64 q.p, .int .i64 q.fn, .int .i64 q.fl, .int .i64 q.tn, .int .i64 q.tl, .string q.data] 35)).heap.size = w.heap.size + 1 := World.size_alloc _ _
  generalize w.alloc (.cells #[.int .i64 q.k, .int .i64 q.on, .int .i64 q.p, .int .i64 q.fn, .int .i64 q.fl, .int .i64 q.tn, .int .i64 q.tl, .string q.data] 35) = W0 at *
  obtain ⟨o0, o1, o2, o3, o4, o5, o6, o7⟩ := eightO HO.out
  go_region_held3 (fun w' => w'.cell? ⟨w.heap.size, 3, none⟩ = some (.int .i64 q.fn) ∧ w'.cell? ⟨w.heap.size, 4, none⟩ = some (.int .i64 q.fl) ∧ w'.cell? ⟨w.heap.size, 5, none⟩ = some (.int .i64 q.tn) ∧ w'.cell? ⟨w.heap.size, 6, none⟩ = some (.int .i64 q.tl) ∧ w'.cell? ⟨w.heap.size, 7, none⟩ = some (.string q.data)) (go_keep) (first
    | (go_at_call 13; refine (send_any HB2.out.1.n q.fn q.fl q.tn q.tl q.data hs0 hs hl).mono ?_; rintro e w2 ⟨rfl, v1, hB, hM⟩; have HFIN := hide (HB2.out.1.stepN hB hM); have HM2 := hide (HB2.out.2.trans HFIN.out.2); have HOB2 : Hid (w2.heap[w.heap.size]? = some (.cells #[.int .i64 q.k, .int .i64 q.on, .int .i64 q.p, .int .i64 q.fn, .int .i64 q.fl, .int .i64 q.tn, .int .i64 q.tl, .string q.data] 35 (0, 0))) := (hM.block _ (lt_of_block HOB.out) (fun e => HNF2.out (.inl e))).trans HOB.out; obtain ⟨z0, z1, z2, z3, z4, z5, z6, z7⟩ := eightO HOB2.out; clear hB hM)
    | (go_at_call 24; refine (rsend_any HA2.out.1.r q.fn q.fl q.tn q.tl q.data hs0 hs hl).mono ?_; rintro e w2 ⟨rfl, v1, hB, hM⟩; have HFIN := hide (HA2.out.1.stepR hB hM); have HM2 := hide (HA2.out.2.trans HFIN.out.2); have HOB2 : Hid (w2.heap[w.heap.size]? = some (.cells #[.int .i64 q.k, .int .i64 q.on, .int .i64 q.p, .int .i64 q.fn, .int .i64 q.fl, .int .i64 q.tn, .int .i64 q.tl, .string q.data] 35 (0, 0))) := (hM.block _ (lt_of_block HOB.out) (fun e => HNF2.out (.inr e))).trans HOB.out; obtain ⟨z0, z1, z2, z3, z4, z5, z6, z7⟩ := eightO HOB2.out; clear hB hM)
    | (go_at_call 13; refine (send_any H0.out.drew.n q.fn q.fl q.tn q.tl q.data hs0 hs hl).mono ?_; rintro e w1 ⟨rfl, v1', hB, hM⟩; have hT := H0.out.drew.stepN hB hM; have HA2 := hide (And.intro hT.1 (Mv.trans hM0.out (Mv.trans (⟨rfl, rfl, rfl, Nat.le_refl _, fun _ _ _ => rfl, fun _ h => .inl h⟩ : Mv _ (F2 b v b2 v2) W0 W0.drew) hT.2))); have HOB : Hid (w1.heap[w.heap.size]? = some (.cells #[.int .i64 q.k, .int .i64 q.on, .int .i64 q.p, .int .i64 q.fn, .int .i64 q.fl, .int .i64 q.tn, .int .i64 q.tl, .string q.data] 35 (0, 0))) := (hM.block _ (show _ < W0.heap.size by omega) (fun e => HNF.out (.inl e))).trans HO.out; have HNF2 : Hid (¬ F2 b v1' b2 v2 w.heap.size) := (fun e => (hT.2.foot _ e).elim HNF.out (fun x => by have : W0.heap.size ≤ w.heap.size := x; omega)); obtain ⟨y0, y1, y2, y3, y4, y5, y6, y7⟩ := eightO HOB.out; clear hB hM hT)
    | (go_at_call 24; refine (rsend_any H0.out.drew.r q.fn q.fl q.tn q.tl q.data hs0 hs hl).mono ?_; rintro e w1 ⟨rfl, v1', hB, hM⟩; have hT := H0.out.drew.stepR hB hM; have HB2 := hide (And.intro hT.1 (Mv.trans hM0.out (Mv.trans (⟨rfl, rfl, rfl, Nat.le_refl _, fun _ _ _ => rfl, fun _ h => .inl h⟩ : Mv _ (F2 b v b2 v2) W0 W0.drew) hT.2))); have HOB : Hid (w1.heap[w.heap.size]? = some (.cells #[.int .i64 q.k, .int .i64 q.on, .int .i64 q.p, .int .i64 q.fn, .int .i64 q.fl, .int .i64 q.tn, .int .i64 q.tl, .string q.data] 35 (0, 0))) := (hM.block _ (show _ < W0.heap.size by omega) (fun e => HNF.out (.inr e))).trans HO.out; have HNF2 : Hid (¬ F2 b v b2 v1' w.heap.size) := (fun e => (hT.2.foot _ e).elim HNF.out (fun x => by have : W0.heap.size ≤ w.heap.size := x; omega)); obtain ⟨y0, y1, y2, y3, y4, y5, y6, y7⟩ := eightO HOB.out; clear hB hM hT))
  go_wp2
  go_ret
  exact ⟨rfl, _, _, _, _, HFIN.out.1, HM2.out, by simp, by omega, by omega⟩

set_option maxHeartbeats 2000000 in
set_option maxRecDepth 8000 in
theorem does_take {base : Nat} {w : World} {b b2 : Nat} {v v2 : Value} {l : List Dg} {s : Int} (h : Two base w b v l s b2 v2 l s) (hl : (l.length + 1) * 56 ≤ 140737488355328) (q : OpV) (hk1 : (q.k == 1) = false) (hk2 : (q.k == 2) = true) :
    Calls Try.prog 11 #[.pointer (some ⟨b, 0, none⟩), .pointer (some ⟨b2, 0, none⟩), .agg #[.int .i64 q.k, .int .i64 q.on, .int .i64 q.p, .int .i64 q.fn, .int .i64 q.fl, .int .i64 q.tn, .int .i64 q.tl, .string q.data]] w fun e w' => e = .returned (.bool true) ∧ DPost base w b v l s b2 v2 w' := by
  have H0 := hide (h.alloc (.cells #[.int .i64 q.k, .int .i64 q.on, .int .i64 q.p, .int .i64 q.fn, .int .i64 q.fl, .int .i64 q.tn, .int .i64 q.tl, .string q.data] 35))
  have hM0 := hide ((Mv.of_below (F := F2 b v b2 v2) (Below.refl _ w)).alloc (.cells #[.int .i64 q.k, .int .i64 q.on, .int .i64 q.p, .int .i64 q.fn, .int .i64 q.fl, .int .i64 q.tn, .int .i64 q.tl, .string q.data] 35))
  have HO := hide (heap_alloc_new w (.cells #[.int .i64 q.k, .int .i64 q.on, .int .i64 q.p, .int .i64 q.fn, .int .i64 q.fl, .int .i64 q.tn, .int .i64 q.tl, .string q.data] 35))
  have hnf : ¬ F2 b v b2 v2 w.heap.size := fun e => absurd (h.lt _ e).2 (by omega)
  have HNF := hide hnf
  clear h hnf
  go_enter Try.func11, Try.ntmps11
  go_wp2_with fail
  have hsz : (w.alloc (.cells #[.int .i64 q.k, .int .i64 q.on, .int .i64 q.p, .int .i64 q.fn, .int .i64 q.fl, .int .i64 q.tn, .int .i64 q.tl, .string q.data] 35)).heap.size = w.heap.size + 1 := World.size_alloc _ _
  generalize w.alloc (.cells #[.int .i64 q.k, .int .i64 q.on, .int .i64 q.p, .int .i64 q.fn, .int .i64 q.fl, .int .i64 q.tn, .int .i64 q.tl, .string q.data] 35) = W0 at *
  refine (take_any (p := q.p) H0.out.n).mono ?_
  rintro e w1 ⟨rfl, v1, hB, hM⟩
  have hT := H0.out.stepN hB hM
  have HT1 := hide hT.1
  have HM1 := hide (hM0.out.trans hT.2)
  have HO1 : Hid (w1.heap[w.heap.size]? = some (.cells #[.int .i64 q.k, .int .i64 q.on, .int .i64 q.p, .int .i64 q.fn, .int .i64 q.fl, .int .i64 q.tn, .int .i64 q.tl, .string q.data] 35 (0, 0))) := (hM.block _ (by omega) (fun e => HNF.out (.inl e))).trans HO.out
  have HN1 : Hid (¬ F2 b v1 b2 v2 w.heap.size) := (fun e => (hT.2.foot _ e).elim HNF.out (fun x => by omega))
  have hs1 : w.heap.size < w1.heap.size := lt_of_block HO1.out
  have hne1 : w.heap.size ≠ w1.heap.size := by omega
  clear hB hM hT H0 hM0 HO HNF
  obtain ⟨o0, o1, o2, o3, o4, o5, o6, o7⟩ := eightO HO1.out
  have HRT := fun W (h : Bag 30 base W b2 v2 l s) => rtake_any (p := q.p) h (show l.length * 56 ≤ 140737488355328 by omega)
  have HRTh := hide HRT
  clear HRT
  generalize atD l q.p = d at *
  go_wp2_with fail
  refine (HRTh.out _ (HT1.out.alloc (.cells #[.int .i64 d.num, .int .i64 d.fn, .int .i64 d.fl, .int .i64 d.tn, .int .i64 d.tl, .string d.data] 46)).r).mono ?_
  rintro e w2 ⟨rfl, v1', hB, hM⟩
  have hT := (HT1.out.alloc (.cells #[.int .i64 d.num, .int .i64 d.fn, .int .i64 d.fl, .int .i64 d.tn, .int .i64 d.tl, .string d.data] 46)).stepR hB hM
  have HT2 := hide hT.1
  have HM2 := hide ((HM1.out.alloc (.cells #[.int .i64 d.num, .int .i64 d.fn, .int .i64 d.fl, .int .i64 d.tn, .int .i64 d.tl, .string d.data] 46)).trans hT.2)
  have HX2 : Hid (w2.heap[w1.heap.size]? = some (.cells #[.int .i64 d.num, .int .i64 d.fn, .int .i64 d.fl, .int .i64 d.tn, .int .i64 d.tl, .string d.data] 46 (0, 0))) := (hM.block _ (by rw [World.size_alloc]; omega) (fun e => absurd (HT1.out.lt _ (.inr e)).2 (by omega))).trans (heap_alloc_new w1 _)
  have hs2 : w1.heap.size < w2.heap.size := lt_of_block HX2.out
  have hne2 : w1.heap.size ≠ w2.heap.size := by omega
  have hne2' : w2.heap.size ≠ w1.heap.size := by omega
  clear hB hM hT HT1 HM1 HO1 HN1 o0 o1 o2 o3 o4 o5 o6 o7
  obtain ⟨⟨x0, x1, x2, x3, x4, x5⟩, xz⟩ := six_of HX2.out
  have hq : ∀ W, (binOp .eql 46 (.agg #[.int .i64 d.num, .int .i64 d.fn, .int .i64 d.fl, .int .i64 d.tn, .int .i64 d.tl, .string d.data]) (.agg #[.int .i64 d.num, .int .i64 d.fn, .int .i64 d.fl, .int .i64 d.tn, .int .i64 d.tl, .string d.data])).run Try.prog W = .ok (.bool true) W := fun W => eqlD_self d W
  have hgd : ∀ y z w, (eqGuard .eql 46 y z (.agg #[.int .i64 d.num, .int .i64 d.fn, .int .i64 d.fl, .int .i64 d.tn, .int .i64 d.tl, .string d.data]) (.agg #[.int .i64 d.num, .int .i64 d.fn, .int .i64 d.fl, .int .i64 d.tn, .int .i64 d.tl, .string d.data])).run Try.prog w = .ok () w := fun y z w => guardD _ _ _ _ _ w
  go_wp2
  go_ret
  exact ⟨rfl, _, _, _, _, HT2.out.alloc _, HM2.out.alloc _, takeL_len _ _, by omega, by omega⟩

set_option maxHeartbeats 2000000 in
set_option maxRecDepth 8000 in
theorem does_at {base : Nat} {w : World} {b b2 : Nat} {v v2 : Value} {l : List Dg} {s : Int} (h : Two base w b v l s b2 v2 l s) (q : OpV) (hk1 : (q.k == 1) = false) (hk2 : (q.k == 2) = false) (hk3 : (q.k == 3) = false) (hk4 : (q.k == 4) = false) (hk5 : (q.k == 5) = true) :
    Calls Try.prog 11 #[.pointer (some ⟨b, 0, none⟩), .pointer (some ⟨b2, 0, none⟩), .agg #[.int .i64 q.k, .int .i64 q.on, .int .i64 q.p, .int .i64 q.fn, .int .i64 q.fl, .int .i64 q.tn, .int .i64 q.tl, .string q.data]] w fun e w' => e = .returned (.bool true) ∧ DPost base w b v l s b2 v2 w' := by
  have H0 := hide (h.alloc (.cells #[.int .i64 q.k, .int .i64 q.on, .int .i64 q.p, .int .i64 q.fn, .int .i64 q.fl, .int .i64 q.tn, .int .i64 q.tl, .string q.data] 35))
  have hM0 := hide ((Mv.of_below (F := F2 b v b2 v2) (Below.refl _ w)).alloc (.cells #[.int .i64 q.k, .int .i64 q.on, .int .i64 q.p, .int .i64 q.fn, .int .i64 q.fl, .int .i64 q.tn, .int .i64 q.tl, .string q.data] 35))
  have HO := hide (heap_alloc_new w (.cells #[.int .i64 q.k, .int .i64 q.on, .int .i64 q.p, .int .i64 q.fn, .int .i64 q.fl, .int .i64 q.tn, .int .i64 q.tl, .string q.data] 35))
  have hnf : ¬ F2 b v b2 v2 w.heap.size := fun e => absurd (h.lt _ e).2 (by omega)
  have HNF := hide hnf
  clear h hnf
  go_enter Try.func11, Try.ntmps11
  go_wp2_with fail
  have hsz : (w.alloc (.cells #[.int .i64 q.k, .int .i64 q.on, .int .i64 q.p, .int .i64 q.fn, .int .i64 q.fl, .int .i64 q.tn, .int .i64 q.tl, .string q.data] 35)).heap.size = w.heap.size + 1 := World.size_alloc _ _
  generalize w.alloc (.cells #[.int .i64 q.k, .int .i64 q.on, .int .i64 q.p, .int .i64 q.fn, .int .i64 q.fl, .int .i64 q.tn, .int .i64 q.tl, .string q.data] 35) = W0 at *
  refine (at_any (p := q.p) H0.out.n).mono ?_
  rintro e w1 ⟨rfl, hb⟩
  have HT1 := hide (H0.out.below hb)
  have HM1 := hide (hM0.out.trans (Mv.of_below hb))
  have HO1 : Hid (w1.heap[w.heap.size]? = some (.cells #[.int .i64 q.k, .int .i64 q.on, .int .i64 q.p, .int .i64 q.fn, .int .i64 q.fl, .int .i64 q.tn, .int .i64 q.tl, .string q.data] 35 (0, 0))) := (hb.block _ (by omega)).trans HO.out
  have hs1 : w.heap.size < w1.heap.size := lt_of_block HO1.out
  have hne1 : w.heap.size ≠ w1.heap.size := by omega
  clear hb H0 hM0 HO HNF
  obtain ⟨o0, o1, o2, o3, o4, o5, o6, o7⟩ := eightO HO1.out
  have HRT := fun W (h : Bag 30 base W b2 v2 l s) => rat_any (p := q.p) h
  have HRTh := hide HRT
  clear HRT
  generalize atD l q.p = d at *
  go_wp2_with fail
  refine (HRTh.out _ (HT1.out.alloc (.cells #[.int .i64 d.num, .int .i64 d.fn, .int .i64 d.fl, .int .i64 d.tn, .int .i64 d.tl, .string d.data] 46)).r).mono ?_
  rintro e w2 ⟨rfl, hb⟩
  have HT2 := hide ((HT1.out.alloc (.cells #[.int .i64 d.num, .int .i64 d.fn, .int .i64 d.fl, .int .i64 d.tn, .int .i64 d.tl, .string d.data] 46)).below hb)
  have HM2 := hide ((HM1.out.alloc (.cells #[.int .i64 d.num, .int .i64 d.fn, .int .i64 d.fl, .int .i64 d.tn, .int .i64 d.tl, .string d.data] 46)).trans (Mv.of_below hb))
  have HX2 : Hid (w2.heap[w1.heap.size]? = some (.cells #[.int .i64 d.num, .int .i64 d.fn, .int .i64 d.fl, .int .i64 d.tn, .int .i64 d.tl, .string d.data] 46 (0, 0))) := (hb.block _ (by rw [World.size_alloc]; omega)).trans (heap_alloc_new w1 _)
  have hs2 : w1.heap.size < w2.heap.size := lt_of_block HX2.out
  have hne2 : w1.heap.size ≠ w2.heap.size := by omega
  have hne2' : w2.heap.size ≠ w1.heap.size := by omega
  clear hb HT1 HM1 HO1 o0 o1 o2 o3 o4 o5 o6 o7
  obtain ⟨⟨x0, x1, x2, x3, x4, x5⟩, xz⟩ := six_of HX2.out
  have hq : ∀ W, (binOp .eql 46 (.agg #[.int .i64 d.num, .int .i64 d.fn, .int .i64 d.fl, .int .i64 d.tn, .int .i64 d.tl, .string d.data]) (.agg #[.int .i64 d.num, .int .i64 d.fn, .int .i64 d.fl, .int .i64 d.tn, .int .i64 d.tl, .string d.data])).run Try.prog W = .ok (.bool true) W := fun W => eqlD_self d W
  have hgd : ∀ y z w, (eqGuard .eql 46 y z (.agg #[.int .i64 d.num, .int .i64 d.fn, .int .i64 d.fl, .int .i64 d.tn, .int .i64 d.tl, .string d.data]) (.agg #[.int .i64 d.num, .int .i64 d.fn, .int .i64 d.fl, .int .i64 d.tn, .int .i64 d.tl, .string d.data])).run Try.prog w = .ok () w := fun y z w => guardD _ _ _ _ _ w
  go_wp2
  go_ret
  exact ⟨rfl, _, _, _, _, HT2.out.alloc _, HM2.out.alloc _, by omega, by omega, by omega⟩

set_option maxHeartbeats 2000000 in
set_option maxRecDepth 8000 in
theorem does_drop {base : Nat} {w : World} {b b2 : Nat} {v v2 : Value} {l : List Dg} {s : Int} (h : Two base w b v l s b2 v2 l s) (hl : (l.length + 1) * 56 ≤ 140737488355328) (q : OpV) (hk1 : (q.k == 1) = false) (hk2 : (q.k == 2) = false) (hk3 : (q.k == 3) = true) :
    Calls Try.prog 11 #[.pointer (some ⟨b, 0, none⟩), .pointer (some ⟨b2, 0, none⟩), .agg #[.int .i64 q.k, .int .i64 q.on, .int .i64 q.p, .int .i64 q.fn, .int .i64 q.fl, .int .i64 q.tn, .int .i64 q.tl, .string q.data]] w fun e w' => e = .returned (.bool true) ∧ DPost base w b v l s b2 v2 w' := by
  have H0 := hide (h.alloc (.cells #[.int .i64 q.k, .int .i64 q.on, .int .i64 q.p, .int .i64 q.fn, .int .i64 q.fl, .int .i64 q.tn, .int .i64 q.tl, .string q.data] 35))
  have hM0 := hide ((Mv.of_below (F := F2 b v b2 v2) (Below.refl _ w)).alloc (.cells #[.int .i64 q.k, .int .i64 q.on, .int .i64 q.p, .int .i64 q.fn, .int .i64 q.fl, .int .i64 q.tn, .int .i64 q.tl, .string q.data] 35))
  have HO := hide (heap_alloc_new w (.cells #[.int .i64 q.k, .int .i64 q.on, .int .i64 q.p, .int .i64 q.fn, .int .i64 q.fl, .int .i64 q.tn, .int .i64 q.tl, .string q.data] 35))
  have hnf : ¬ F2 b v b2 v2 w.heap.size := fun e => absurd (h.lt _ e).2 (by omega)
  have HNF := hide hnf
  clear h hnf
  go_enter Try.func11, Try.ntmps11
  go_wp2_with fail
  have hsz : (w.alloc (.cells #[.int .i64 q.k, .int .i64 q.on, .int .i64 q.p, .int .i64 q.fn, .int .i64 q.fl, .int .i64 q.tn, .int .i64 q.tl, .string q.data] 35)).heap.size = w.heap.size + 1 := World.size_alloc _ _
  generalize w.alloc (.cells #[.int .i64 q.k, .int .i64 q.on, .int .i64 q.p, .int .i64 q.fn, .int .i64 q.fl, .int .i64 q.tn, .int .i64 q.tl, .string q.data] 35) = W0 at *
  refine (rtake_any (p := q.p) H0.out.r (by omega)).mono ?_
  rintro e w1 ⟨rfl, v1, hB, hM⟩
  have hT := H0.out.stepR hB hM
  have HT1 := hide hT.1
  have HM1 := hide (hM0.out.trans hT.2)
  have HO1 : Hid (w1.heap[w.heap.size]? = some (.cells #[.int .i64 q.k, .int .i64 q.on, .int .i64 q.p, .int .i64 q.fn, .int .i64 q.fl, .int .i64 q.tn, .int .i64 q.tl, .string q.data] 35 (0, 0))) := (hM.block _ (by omega) (fun e => HNF.out (.inr e))).trans HO.out
  have hs1 : w.heap.size < w1.heap.size := lt_of_block HO1.out
  have hne1 : w.heap.size ≠ w1.heap.size := by omega
  clear hB hM hT H0 hM0 HO HNF
  obtain ⟨o0, o1, o2, o3, o4, o5, o6, o7⟩ := eightO HO1.out
  go_wp2_with fail
  refine (drop_any (p := q.p) (HT1.out.alloc (.cells #[.int .i64 (atD l q.p).num, .int .i64 (atD l q.p).fn, .int .i64 (atD l q.p).fl, .int .i64 (atD l q.p).tn, .int .i64 (atD l q.p).tl, .string (atD l q.p).data] 46)).n).mono ?_
  rintro e w2 ⟨rfl, v1', hB, hM⟩
  have hT := (HT1.out.alloc (.cells #[.int .i64 (atD l q.p).num, .int .i64 (atD l q.p).fn, .int .i64 (atD l q.p).fl, .int .i64 (atD l q.p).tn, .int .i64 (atD l q.p).tl, .string (atD l q.p).data] 46)).stepN hB hM
  have HT2 := hide hT.1
  have HM2 := hide ((HM1.out.alloc (.cells #[.int .i64 (atD l q.p).num, .int .i64 (atD l q.p).fn, .int .i64 (atD l q.p).fl, .int .i64 (atD l q.p).tn, .int .i64 (atD l q.p).tl, .string (atD l q.p).data] 46)).trans hT.2)
  clear hB hM hT HT1 HM1 HO1 o0 o1 o2 o3 o4 o5 o6 o7
  go_wp2
  go_ret
  exact ⟨rfl, _, _, _, _, HT2.out, HM2.out, takeL_len _ _, by omega, by omega⟩

set_option maxHeartbeats 2000000 in
set_option maxRecDepth 8000 in
theorem does_dup {base : Nat} {w : World} {b b2 : Nat} {v v2 : Value} {l : List Dg} {s : Int} (h : Two base w b v l s b2 v2 l s) (hs0 : 0 ≤ s) (hs : s < 9223372036854775807) (hl : (l.length + 1) * 56 ≤ 140737488355328) (q : OpV) (hk1 : (q.k == 1) = false) (hk2 : (q.k == 2) = false) (hk3 : (q.k == 3) = false) (hk4 : (q.k == 4) = true) :
    Calls Try.prog 11 #[.pointer (some ⟨b, 0, none⟩), .pointer (some ⟨b2, 0, none⟩), .agg #[.int .i64 q.k, .int .i64 q.on, .int .i64 q.p, .int .i64 q.fn, .int .i64 q.fl, .int .i64 q.tn, .int .i64 q.tl, .string q.data]] w fun e w' => e = .returned (.bool true) ∧ DPost base w b v l s b2 v2 w' := by
  have H0 := hide (h.alloc (.cells #[.int .i64 q.k, .int .i64 q.on, .int .i64 q.p, .int .i64 q.fn, .int .i64 q.fl, .int .i64 q.tn, .int .i64 q.tl, .string q.data] 35))
  have hM0 := hide ((Mv.of_below (F := F2 b v b2 v2) (Below.refl _ w)).alloc (.cells #[.int .i64 q.k, .int .i64 q.on, .int .i64 q.p, .int .i64 q.fn, .int .i64 q.fl, .int .i64 q.tn, .int .i64 q.tl, .string q.data] 35))
  have HO := hide (heap_alloc_new w (.cells #[.int .i64 q.k, .int .i64 q.on, .int .i64 q.p, .int .i64 q.fn, .int .i64 q.fl, .int .i64 q.tn, .int .i64 q.tl, .string q.data] 35))
  have hnf : ¬ F2 b v b2 v2 w.heap.size := fun e => absurd (h.lt _ e).2 (by omega)
  have HNF := hide hnf
  clear h hnf
  go_enter Try.func11, Try.ntmps11
  go_wp2_with fail
  have hsz : (w.alloc (.cells #[.int .i64 q.k, .int .i64 q.on, .int .i64 q.p, .int .i64 q.fn, .int .i64 q.fl, .int .i64 q.tn, .int .i64 q.tl, .string q.data] 35)).heap.size = w.heap.size + 1 := World.size_alloc _ _
  generalize w.alloc (.cells #[.int .i64 q.k, .int .i64 q.on, .int .i64 q.p, .int .i64 q.fn, .int .i64 q.fl, .int .i64 q.tn, .int .i64 q.tl, .string q.data] 35) = W0 at *
  have HD := dup_any (p := q.p) H0.out.n hs0 hs hl
  have HRD := fun W (h : Bag 30 base W b2 v2 l s) => rdup_any (p := q.p) h hs0 hs hl
  have g1 : (if atE l q.p = 0 then l ++ [{ atD l q.p with num := s + 1 }] else l).length ≤ l.length + 1 := by
    split
    · simp
    · omega
  have g2 : s ≤ (if atE l q.p = 0 then s + 1 else s) := by split <;> omega
  have g3 : (if atE l q.p = 0 then s + 1 else s) ≤ s + 1 := by split <;> omega
  generalize (if atE l q.p = 0 then l ++ [{ atD l q.p with num := s + 1 }] else l) = l' at *
  generalize (if atE l q.p = 0 then s + 1 else s) = s' at *
  generalize (if atE l q.p = 0 then s + 1 else 0) = m' at *
  have HRDh := hide HRD
  have G := hide (And.intro g1 (And.intro g2 g3))
  clear HRD g1 g2 g3
  refine HD.mono ?_
  rintro e w1 ⟨rfl, v1, hB, hM⟩
  have hT := H0.out.stepN hB hM
  have HT1 := hide hT.1
  have HM1 := hide (hM0.out.trans hT.2)
  have HO1 : Hid (w1.heap[w.heap.size]? = some (.cells #[.int .i64 q.k, .int .i64 q.on, .int .i64 q.p, .int .i64 q.fn, .int .i64 q.fl, .int .i64 q.tn, .int .i64 q.tl, .string q.data] 35 (0, 0))) := (hM.block _ (by omega) (fun e => HNF.out (.inl e))).trans HO.out
  clear hB hM hT H0 hM0 HO HNF HD
  obtain ⟨o0, o1, o2, o3, o4, o5, o6, o7⟩ := eightO HO1.out
  go_wp2_with fail
  refine (HRDh.out _ HT1.out.r).mono ?_
  rintro e w2 ⟨rfl, v1', hB, hM⟩
  have hT := HT1.out.stepR hB hM
  have HT2 := hide hT.1
  have HM2 := hide (HM1.out.trans hT.2)
  clear hB hM hT HT1 HM1 HO1 o0 o1 o2 o3 o4 o5 o6 o7
  go_wp2
  go_ret
  exact ⟨rfl, _, _, _, _, HT2.out, HM2.out, G.out.1, G.out.2.1, G.out.2.2⟩

set_option maxHeartbeats 2000000 in
set_option maxRecDepth 8000 in
theorem does_same {base : Nat} {w : World} {b b2 : Nat} {v v2 : Value} {l : List Dg} {s : Int} (h : Two base w b v l s b2 v2 l s) (hl : (l.length + 1) * 56 ≤ 140737488355328) (q : OpV) (hk1 : (q.k == 1) = false) (hk2 : (q.k == 2) = false) (hk3 : (q.k == 3) = false) (hk4 : (q.k == 4) = false) (hk5 : (q.k == 5) = false) :
    Calls Try.prog 11 #[.pointer (some ⟨b, 0, none⟩), .pointer (some ⟨b2, 0, none⟩), .agg #[.int .i64 q.k, .int .i64 q.on, .int .i64 q.p, .int .i64 q.fn, .int .i64 q.fl, .int .i64 q.tn, .int .i64 q.tl, .string q.data]] w fun e w' => e = .returned (.bool true) ∧ DPost base w b v l s b2 v2 w' := by
  have H0 := hide (h.alloc (.cells #[.int .i64 q.k, .int .i64 q.on, .int .i64 q.p, .int .i64 q.fn, .int .i64 q.fl, .int .i64 q.tn, .int .i64 q.tl, .string q.data] 35))
  have hM0 := hide ((Mv.of_below (F := F2 b v b2 v2) (Below.refl _ w)).alloc (.cells #[.int .i64 q.k, .int .i64 q.on, .int .i64 q.p, .int .i64 q.fn, .int .i64 q.fl, .int .i64 q.tn, .int .i64 q.tl, .string q.data] 35))
  have HO := hide (heap_alloc_new w (.cells #[.int .i64 q.k, .int .i64 q.on, .int .i64 q.p, .int .i64 q.fn, .int .i64 q.fl, .int .i64 q.tn, .int .i64 q.tl, .string q.data] 35))
  have hnf : ¬ F2 b v b2 v2 w.heap.size := fun e => absurd (h.lt _ e).2 (by omega)
  have HNF := hide hnf
  clear h hnf
  go_enter Try.func11, Try.ntmps11
  go_wp2_with fail
  have hsz : (w.alloc (.cells #[.int .i64 q.k, .int .i64 q.on, .int .i64 q.p, .int .i64 q.fn, .int .i64 q.fl, .int .i64 q.tn, .int .i64 q.tl, .string q.data] 35)).heap.size = w.heap.size + 1 := World.size_alloc _ _
  generalize w.alloc (.cells #[.int .i64 q.k, .int .i64 q.on, .int .i64 q.p, .int .i64 q.fn, .int .i64 q.fl, .int .i64 q.tn, .int .i64 q.tl, .string q.data] 35) = W0 at *
  refine (same_any H0.out.n H0.out.r (by omega)).mono ?_
  rintro e w1 ⟨rfl, hb⟩
  have HT1 := hide (H0.out.below hb)
  have HM1 := hide (hM0.out.trans (Mv.of_below hb))
  clear hb H0 hM0 HO HNF
  go_wp2
  go_ret
  exact ⟨rfl, _, _, _, _, HT1.out, HM1.out, by omega, by omega, by omega⟩
end Go.Proofs.Ytnbmgddkaclneaa
