import Derived.Test.YtnbmgddkaclneaaNtC
import Derived.Test.YtnbmgddkaclneaaNtE
namespace Go.Proofs.Ytnbmgddkaclneaa
open Go.RowKit

/-- what Take leaves -/
def takeL (l : List Dg) (p : Int) : List Dg := if 0 ≤ p ∧ p < (l.length : Int) then l.eraseIdx p.toNat else l

theorem six_of {w : World} {M : Nat} {a0 a1 a2 a3 a4 a5 : Value} {t : TypeId} (h : w.heap[M]? = some (.cells #[a0, a1, a2, a3, a4, a5] t (0, 0))) :
    (w.cell? ⟨M, 0, none⟩ = some a0 ∧ w.cell? ⟨M, 1, none⟩ = some a1 ∧ w.cell? ⟨M, 2, none⟩ = some a2 ∧ w.cell? ⟨M, 3, none⟩ = some a3 ∧ w.cell? ⟨M, 4, none⟩ = some a4 ∧ w.cell? ⟨M, 5, none⟩ = some a5) ∧ ∀ k, w.frozen? ⟨M, k, none⟩ = false := by
  refine ⟨⟨?_, ?_, ?_, ?_, ?_, ?_⟩, fun k => ?_⟩ <;> simp [World.cell?, World.frozen?, h]
theorem end_set {T base : Nat} {w W : World} {b : Nat} {v : Value} {l : List Dg} {s : Int} {F F' : Nat → Prop} (h : Bag T base W b v l s ∧ Mv F F' w W) {N : Nat} (hN : w.heap.size ≤ N) (hb : ¬ Ft b v N) (k : Nat) (u : Value) :
    Bag T base (W.setCell ⟨N, k, none⟩ u) b v l s ∧ Mv F F' w (W.setCell ⟨N, k, none⟩ u) := by
  refine ⟨h.1.keep fun j hj => Below.heap_setCell W ⟨N, k, none⟩ u j (fun e => hb (by rw [← show j = N from e]; exact hj)), ?_⟩
  exact ⟨h.2.os, h.2.tape, h.2.output, by show _ ≤ (W.heap.modify N _).size; rw [Array.size_modify]; exact h.2.size, fun j hj hf => (Below.heap_setCell W ⟨N, k, none⟩ u j (fun e => by have : j = N := e; omega)).trans (h.2.block j hj hf), h.2.foot⟩
theorem end_six {T base : Nat} {w W : World} {b : Nat} {v : Value} {l : List Dg} {s : Int} {F F' : Nat → Prop} (h : Bag T base W b v l s ∧ Mv F F' w W) {N : Nat} (hN : w.heap.size ≤ N) (hb : ¬ Ft b v N) (u0 u1 u2 u3 u4 u5 : Value) :
    Bag T base ((((((W.setCell ⟨N, 0, none⟩ u0).setCell ⟨N, 1, none⟩ u1).setCell ⟨N, 2, none⟩ u2).setCell ⟨N, 3, none⟩ u3).setCell ⟨N, 4, none⟩ u4).setCell ⟨N, 5, none⟩ u5) b v l s ∧ Mv F F' w ((((((W.setCell ⟨N, 0, none⟩ u0).setCell ⟨N, 1, none⟩ u1).setCell ⟨N, 2, none⟩ u2).setCell ⟨N, 3, none⟩ u3).setCell ⟨N, 4, none⟩ u4).setCell ⟨N, 5, none⟩ u5) :=
  end_set (end_set (end_set (end_set (end_set (end_set h hN hb _ _) hN hb _ _) hN hb _ _) hN hb _ _) hN hb _ _) hN hb _ _
theorem bag_deleted {T base : Nat} {w W w2 : World} {b g cap : Nat} {l l' : List Dg} {s : Int} {F : Nat → Prop} (hB : Bag T base W b (.slice (some ⟨g, 0, none⟩) l.length cap) l s) (hM : Mv F (Ft b (.slice (some ⟨g, 0, none⟩) l.length cap)) w W)
    (hown : w2.ownsRow base 46 6 (.slice (some ⟨g, 0, none⟩) (l.length - 1) cap) l'.length (dcs l')) (hg : W.grownBy w2 (some g)) :
    Bag T base (w2.setCell ⟨b, 0, none⟩ (.slice (some ⟨g, 0, none⟩) (l.length - 1) cap)) b (.slice (some ⟨g, 0, none⟩) (l.length - 1) cap) l' s ∧ Mv F (Ft b (.slice (some ⟨g, 0, none⟩) (l.length - 1) cap)) w (w2.setCell ⟨b, 0, none⟩ (.slice (some ⟨g, 0, none⟩) (l.length - 1) cap)) := by
  have hlt := hB.lt
  have hgb : some b ≠ some g := fun e => hB.apt (by rw [e]; rfl)
  have hb2 : w2.heap[b]? = some (.cells #[.slice (some ⟨g, 0, none⟩) l.length cap, .int .i64 s] T (0, 0)) := (hg.block b hlt hgb).trans hB.blk
  refine ⟨Bag.set0 hb2 hB.low hown (fun e => hgb e.symm), ?_⟩
  refine hM.trans ⟨hg.os, hg.tape, hg.output, ?_, fun k hk hn => ?_, fun k hk => .inl ?_⟩
  · have h1 := hg.size
    show W.heap.size ≤ (w2.heap.modify b _).size
    rw [Array.size_modify]
    exact h1
  · rw [Below.heap_setCell w2 ⟨b, 0, none⟩ _ k (fun e => hn (.inl e)), hg.block k hk (fun e => hn (.inr e.symm))]
  · exact hk

set_option maxHeartbeats 1000000 in
set_option maxRecDepth 8000 in
theorem take_any {base : Nat} {w : World} {b : Nat} {v : Value} {l : List Dg} {s p : Int} (h : Bag 58 base w b v l s) :
    Calls Try.prog 15 #[.pointer (some ⟨b, 0, none⟩), .int .i64 p] w fun e w' => e = .returned (.tuple #[(atD l p).val, .int .i64 (atE l p)]) ∧ ∃ v', Bag 58 base w' b v' (takeL l p) s ∧ Mv (Ft b v) (Ft b v') w w' := by
  have hlt := h.lt
  obtain ⟨z, hz⟩ : ∃ z, (Obj.cells #[.int .i64 0, .int .i64 0, .int .i64 0, .int .i64 0, .int .i64 0, .string ⟨#[]⟩] 46 (0, 0)) = z := ⟨_, rfl⟩
  have hAt := at_any (p := p) (h.alloc z)
  by_cases hp : 0 ≤ p ∧ p < (l.length : Int)
  · obtain ⟨ad, cap, hv, hlc, hcm, had⟩ := h.form
    obtain ⟨g, rfl⟩ := had (by omega)
    obtain ⟨n, rfl⟩ : ∃ n : Nat, p = (n : Int) := ⟨p.toNat, by omega⟩
    have hn : n < l.length := by omega
    have e2 : atE l (n : Int) = 0 := by unfold atE; rw [if_pos hp]
    have e3 : takeL l (n : Int) = l.eraseIdx n := by unfold takeL; rw [if_pos hp]; rfl
    rw [e2] at hAt ⊢
    rw [e3]
    subst hv
    generalize atD l (n : Int) = d at *
    have HAT := hide hAt
    have H := hide h
    clear hAt e2 e3 hp h had
    go_enter Try.func15, Try.ntmps15
    go_wp2_with fail
    refine HAT.out.mono ?_
    rintro e w1 ⟨rfl, hb1⟩
    have HB1 := hide ((H.out.alloc z).below hb1)
    have hs1 : w.heap.size < w1.heap.size := by have := hb1.size; rw [World.size_alloc] at this; omega
    have HR1 : Hid (w1.heap[w.heap.size]? = some z) := (hb1.block _ (by rw [World.size_alloc]; omega)).trans (heap_alloc_new w z)
    have HM1 : Hid (Mv (Ft b (.slice (some ⟨g, 0, none⟩) l.length cap)) (Ft b (.slice (some ⟨g, 0, none⟩) l.length cap)) w w1) := Mv.trans (Mv.of_below ((Below.refl _ w).alloc (Nat.le_refl _) z)) (Mv.of_below hb1)
    have HG := hide (H.out.ftlt g (.inr rfl)).2
    have HZ := hide hz
    clear hb1 HAT hz
    have c0 : ∀ o, (w1.alloc o).cell? ⟨b, 0, none⟩ = some (.slice (some ⟨g, 0, none⟩) l.length cap) := fun o => (HB1.out.alloc o).c0
    go_wp2_with fail
    refine (delete_any (HB1.out.alloc _).row hn).mono ?_
    rintro e w2 ⟨rfl, hown, hg⟩
    have hBA := HB1.out.alloc (.cells #[.int .i64 d.num, .int .i64 d.fn, .int .i64 d.fl, .int .i64 d.tn, .int .i64 d.tl, .string d.data] 46)
    have hgb : some b ≠ some g := fun e => H.out.apt (by rw [e]; rfl)
    have x0 : w2.cell? ⟨b, 0, none⟩ = some (.slice (some ⟨g, 0, none⟩) l.length cap) := hg.cell hBA.c0 hgb
    have y0 : w2.frozen? ⟨b, 0, none⟩ = false := (hg.frozen_far ⟨b, 0, none⟩ hBA.lt hgb).trans (hBA.z 0)
    have hgl := HG.out
    have hM : w2.heap[w1.heap.size]? = some (.cells #[.int .i64 d.num, .int .i64 d.fn, .int .i64 d.fl, .int .i64 d.tn, .int .i64 d.tl, .string d.data] 46 (0, 0)) := (hg.block _ (by rw [World.size_alloc]; omega) (fun e => by injection e with e; omega)).trans (heap_alloc_new w1 _)
    have hN : w2.heap[w.heap.size]? = some (.cells #[.int .i64 0, .int .i64 0, .int .i64 0, .int .i64 0, .int .i64 0, .string ⟨#[]⟩] 46 (0, 0)) := by rw [HZ.out]; exact (hg.block _ (by rw [World.size_alloc]; omega) (fun e => by injection e with e; omega)).trans ((Below.heap_alloc w1 _ _ hs1).trans HR1.out)
    obtain ⟨⟨p0, p1, p2, p3, p4, p5⟩, pz⟩ := six_of hM
    obtain ⟨⟨q0, q1, q2, q3, q4, q5⟩, qz⟩ := six_of hN
    have n1 : w1.heap.size ≠ b := by omega
    have n2 : w.heap.size ≠ b := by omega
    have n3 : w.heap.size ≠ w1.heap.size := by omega
    have n4 : w1.heap.size ≠ w.heap.size := by omega
    have n5 : b ≠ w.heap.size := by omega
    have n6 : b ≠ w1.heap.size := by omega
    have HEND := hide (bag_deleted hBA (HM1.out.trans (Mv.of_below ((Below.refl _ w1).alloc (Nat.le_refl _) _))) hown hg)
    have HGW := hide hg
    clear hM hN hown hg hBA hgb c0
    go_wp2_with fail
    refine bodyPost_ret (by rw [results_cell_tmp rfl]; go_simp; rfl) rfl ?_
    exact ⟨rfl, _, end_six HEND.out (Nat.le_refl _) (by rintro (e | e); exact n2 e; simp only [Value.ownBlock] at e; injection e with e; omega) _ _ _ _ _ _⟩
  · have e1 : atD l p = dg0 := by unfold atD; rw [if_neg hp]
    have e2 : atE l p = 30 := by unfold atE; rw [if_neg hp]
    have e3 : takeL l p = l := by unfold takeL; rw [if_neg hp]
    rw [e1, e2] at hAt ⊢
    rw [e3]
    have HAT := hide hAt
    have H := hide h
    clear hAt e1 e2 e3 hp h
    go_enter Try.func15, Try.ntmps15
    go_wp2_with fail
    refine HAT.out.mono ?_
    rintro e w1 ⟨rfl, hb1⟩
    have HB1 := hide ((H.out.alloc z).below hb1)
    have hs1 : w.heap.size < w1.heap.size := by have := hb1.size; rw [World.size_alloc] at this; omega
    have hN : w1.heap[w.heap.size]? = some (.cells #[.int .i64 0, .int .i64 0, .int .i64 0, .int .i64 0, .int .i64 0, .string ⟨#[]⟩] 46 (0, 0)) := by rw [hz]; exact (hb1.block _ (by rw [World.size_alloc]; omega)).trans (heap_alloc_new w z)
    obtain ⟨⟨q0, q1, q2, q3, q4, q5⟩, qz⟩ := six_of hN
    have HM1 : Hid (Mv (Ft b v) (Ft b v) w w1) := Mv.trans (Mv.of_below ((Below.refl _ w).alloc (Nat.le_refl _) z)) (Mv.of_below hb1)
    have hnf : ¬ Ft b v w.heap.size := fun e => absurd (H.out.ftlt _ e).2 (by omega)
    have HNF := hide hnf
    have n3 : w.heap.size ≠ w1.heap.size := by omega
    have n4 : w1.heap.size ≠ w.heap.size := by omega
    clear hb1 HAT hz hN hnf
    go_wp2_with fail
    refine bodyPost_ret (by rw [results_cell_tmp rfl]; go_simp; rfl) rfl ?_
    have hE := end_six ⟨HB1.out, HM1.out⟩ (Nat.le_refl _) HNF.out (.int .i64 dg0.num) (.int .i64 dg0.fn) (.int .i64 dg0.fl) (.int .i64 dg0.tn) (.int .i64 dg0.tl) (.string dg0.data)
    exact ⟨rfl, v, hE.1.alloc _, hE.2.trans (Mv.of_below ((Below.refl _ _).alloc (Nat.le_refl _) _))⟩

set_option maxHeartbeats 1000000 in
theorem drop_any {base : Nat} {w : World} {b : Nat} {v : Value} {l : List Dg} {s p : Int} (h : Bag 58 base w b v l s) :
    Calls Try.prog 16 #[.pointer (some ⟨b, 0, none⟩), .int .i64 p] w fun e w' => e = .returned (.int .i64 (atE l p)) ∧ ∃ v', Bag 58 base w' b v' (takeL l p) s ∧ Mv (Ft b v) (Ft b v') w w' := by
  have hT := hide (take_any (p := p) h)
  clear h
  go_enter Try.func16, Try.ntmps16
  go_wp2_with fail
  refine hT.out.mono ?_
  rintro e w1 ⟨rfl, v', hB, hM⟩
  have HB := hide hB
  have HM := hide hM
  clear hB hM hT
  go_wp2
  go_ret
  exact ⟨rfl, v', HB.out.alloc _, HM.out.trans (Mv.of_below ((Below.refl _ _).alloc (Nat.le_refl _) _))⟩

set_option maxHeartbeats 1000000 in
theorem dup_any {base : Nat} {w : World} {b : Nat} {v : Value} {l : List Dg} {s p : Int} (h : Bag 58 base w b v l s) (hs0 : 0 ≤ s) (hs : s < 9223372036854775807) (hl : (l.length + 1) * 56 ≤ 140737488355328) :
    Calls Try.prog 17 #[.pointer (some ⟨b, 0, none⟩), .int .i64 p] w fun e w' =>
      e = .returned (.tuple #[.int .i64 (if atE l p = 0 then s + 1 else 0), .int .i64 (atE l p)]) ∧ ∃ v', Bag 58 base w' b v' (if atE l p = 0 then l ++ [{ atD l p with num := s + 1 }] else l) (if atE l p = 0 then s + 1 else s) ∧ Mv (Ft b v) (Ft b v') w w' := by
  have hA := hide (at_any (p := p) h)
  by_cases hp : atE l p = 0
  · simp only [if_pos hp]
    rw [hp] at hA ⊢
    generalize atD l p = d at *
    have H := hide h
    clear h hp
    go_enter Try.func17, Try.ntmps17
    go_wp2_with fail
    refine hA.out.mono ?_
    rintro e w1 ⟨rfl, hb1⟩
    have HB1 := hide (H.out.below hb1)
    have HM1 := hide (Mv.of_below (F := Ft b v) hb1)
    clear hA hb1
    go_wp2_with fail
    refine (send_any (HB1.out.alloc _) d.fn d.fl d.tn d.tl d.data hs0 hs hl).mono ?_
    rintro e w2 ⟨rfl, v', hB2, hM2⟩
    have HB2 := hide hB2
    have HM2 := hide (HM1.out.trans ((Mv.of_below ((Below.refl _ w1).alloc (Nat.le_refl _) _)).trans hM2))
    clear hB2 hM2
    go_wp2
    go_ret2
    exact ⟨rfl, v', HB2.out, HM2.out⟩
  · simp only [if_neg hp]
    have hq : (atE l p == 0) = false := by rw [beq_eq_false_iff_ne]; exact hp
    generalize atD l p = d at *
    generalize atE l p = x at *
    have H := hide h
    clear h hp
    go_enter Try.func17, Try.ntmps17
    go_wp2_with fail
    refine hA.out.mono ?_
    rintro e w1 ⟨rfl, hb1⟩
    have HB1 := hide (H.out.below hb1)
    have HM1 := hide (Mv.of_below (F := Ft b v) hb1)
    clear hA hb1
    go_wp2
    go_ret2
    exact ⟨rfl, v, HB1.out.alloc _, HM1.out.trans (Mv.of_below ((Below.refl _ _).alloc (Nat.le_refl _) _))⟩
end Go.Proofs.Ytnbmgddkaclneaa
