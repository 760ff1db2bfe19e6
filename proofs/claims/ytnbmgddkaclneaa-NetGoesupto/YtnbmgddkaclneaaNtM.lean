import Derived.Test.YtnbmgddkaclneaaNtL
namespace Go.Proofs.Ytnbmgddkaclneaa
open Go.RowKit

theorem own_base {w : World} {B base : Nat} {e : TypeId} {size n : Nat} {v : Value} {xs : List Value} (h : w.ownsRow B e size v n xs) (hb : base ≤ B) : w.ownsRow base e size v n xs := by
  refine ⟨h.1, ?_⟩
  rcases h.2 with h1 | ⟨g, cap, cur, rfl, hg, h2⟩
  · exact .inl h1
  · exact .inr ⟨g, cap, cur, rfl, Nat.le_trans hb hg, h2⟩

/-- slices.Clone of a bag's row -/
theorem own_form {w : World} {B : Nat} {e : TypeId} {size n : Nat} {v : Value} {xs : List Value} (h : w.ownsRow B e size v n xs) : (v = .slice none 0 0 ∧ n = 0) ∨ ∃ g cap, v = .slice (some ⟨g, 0, none⟩) n cap ∧ g < w.heap.size := by
  rcases h.2 with h1 | ⟨g, cap, cur, rfl, hg, hh, _⟩
  · exact .inl h1
  · exact .inr ⟨g, cap, rfl, lt_of_block hh⟩
theorem own_slice {w : World} {B : Nat} {e : TypeId} {size n : Nat} {v : Value} {xs : List Value} (h : w.ownsRow B e size v n xs) : ∃ ad len cap, v = .slice ad len cap := by
  rcases own_form h with ⟨h, _⟩ | ⟨g, cap, h, _⟩
  · exact ⟨_, _, _, h⟩
  · exact ⟨_, _, _, h⟩
theorem oneC_dcs (l : List Dg) : ∀ u ∈ dcs l, u.oneCell' = true := dcs_one_cell l

set_option maxHeartbeats 1000000 in
theorem clone_any {base : Nat} {w : World} {v : Value} {l : List Dg} (h : w.ownsRow base 46 6 v l.length (dcs l)) (hl : l.length * 56 ≤ 140737488355328) :
    Calls Try.prog 23 #[v] w fun e w' => ∃ v', e = .returned v' ∧ w'.ownsRow w.heap.size 46 6 v' l.length (dcs l) ∧ Below w.heap.size w w' := by
  obtain ⟨i0, hi0, hz0, hz1, hz2⟩ := info_parts Try.infoD
  rcases own_form h with ⟨rfl, hn⟩ | ⟨g, cap, rfl, hg⟩
  · have HE : Hid (w.ownsRow w.heap.size 46 6 (.slice none 0 0) l.length (dcs l)) := by
      obtain rfl : l = [] := List.length_eq_zero_iff.1 hn
      exact World.ownsRow_nil _ _ _ _
    have he : ∀ w : World, (binOp .eql 28 (.slice none 0 0) (.slice none 0 0)).run Try.prog w = .ok (.bool true) w := fun _ => rfl
    clear h hn
    go_enter Try.func23, Try.ntmps23
    go_wp2
    go_ret
    exact ⟨_, rfl, HE.out, Below.refl _ _⟩
  · have HR := hide h
    have he : ∀ w : World, (binOp .eql 28 (.slice (some ⟨g, 0, none⟩) l.length cap) (.slice none 0 0)).run Try.prog w = .ok (.bool false) w := fun _ => rfl
    clear h
    go_enter Try.func23, Try.ntmps23
    go_wp2_with (at_builtin; refine wpList_append_own _ rfl _ _ 28 rfl w.heap.size 46 i0 (.agg #[.int .i64 0, .int .i64 0, .int .i64 0, .int .i64 0, .int .i64 0, .string ByteArray.empty]) 6 56 Try.underlying28 hi0 hz0 hz1 hz2 rfl (by decide) (.slice (some ⟨w.heap.size, 0, none⟩) 0 0) 0 [] rfl (World.ownsRow_made w #[] 0 (Nat.le_refl _) (by decide) rfl) ⟨g, 0, none⟩ l.length cap (dcs l) rfl (dcs_len l) (fun j u hu => Lib.cell?_alloc_some _ (HR.out.cells (g := g) rfl j u hu)) (oneC_dcs l) (by unfold maxLen; omega) (by omega) (by rw [World.size_alloc]; omega) ?_; intro v' w1 hown hgrow hnil)
    go_ret
    rw [Nat.zero_add, List.nil_append] at hown
    exact ⟨_, rfl, hown, ((Below.refl _ w).alloc (Nat.le_refl _) _).grown hgrow (by rw [World.size_alloc]; omega) (fun k hk => by simp only [Value.ownBlock] at hk; injection hk with hk; omega)⟩

theorem bag_put {T base : Nat} {w W w2 : World} {b : Nat} {v v' : Value} {l l' : List Dg} {s : Int} (hB : Bag T base W b v l s) (hM : Mv (Ft b v) (Ft b v) w W)
    (hown : w2.ownsRow w.heap.size 46 6 v' l'.length (dcs l')) (hg : Below W.heap.size W w2) (hb : b < w.heap.size) :
    Bag T base (w2.setCell ⟨b, 0, none⟩ v') b v' l' s ∧ Mv (Ft b v) (Ft b v') w (w2.setCell ⟨b, 0, none⟩ v') := by
  have hlt := hB.lt
  have hnb : v'.ownBlock ≠ some b := fun e => absurd (hown.lt b e).1 (by omega)
  have hb2 : w2.heap[b]? = some (.cells #[v, .int .i64 s] T (0, 0)) := (hg.block b hlt).trans hB.blk
  refine ⟨Bag.set0 hb2 hB.low (own_base hown (Nat.le_trans hB.low (Nat.le_of_lt hb))) hnb, ?_⟩
  refine ⟨hg.os.trans hM.os, hg.tape.trans hM.tape, hg.output.trans hM.output, ?_, fun k hk hn => ?_, fun k hk => ?_⟩
  · show w.heap.size ≤ (w2.heap.modify b _).size
    rw [Array.size_modify]
    exact Nat.le_trans hM.size hg.size
  · rw [Below.heap_setCell w2 ⟨b, 0, none⟩ _ k (fun e => hn (.inl e)), hg.block k (Nat.lt_of_lt_of_le hk hM.size)]
    exact hM.block k hk hn
  · rcases hk with rfl | hk
    · exact .inl (.inl rfl)
    · exact .inr (hown.lt k hk).1

theorem below_up {B : Nat} {a b : World} (h : Below B a b) {C : Nat} (hc : C ≤ B) : Below C a b := ⟨h.os, h.tape, h.output, h.size, fun k hk => h.block k (by omega)⟩

set_option maxHeartbeats 2000000 in
set_option maxRecDepth 8000 in
theorem rtake_any {base : Nat} {w : World} {b : Nat} {v : Value} {l : List Dg} {s p : Int} (h : Bag 30 base w b v l s) (hl : l.length * 56 ≤ 140737488355328) :
    Calls Try.prog 25 #[.pointer (some ⟨b, 0, none⟩), .int .i64 p] w fun e w' => e = .returned (.tuple #[(atD l p).val, .int .i64 (atE l p)]) ∧ ∃ v', Bag 30 base w' b v' (takeL l p) s ∧ Mv (Ft b v) (Ft b v') w w' := by
  have hlt := h.lt
  obtain ⟨i0, hi0, hz0, hz1, hz2⟩ := info_parts Try.infoD
  obtain ⟨z, hz⟩ : ∃ z, (Obj.cells #[.int .i64 0, .int .i64 0, .int .i64 0, .int .i64 0, .int .i64 0, .string ⟨#[]⟩] 46 (0, 0)) = z := ⟨_, rfl⟩
  have hAt := rat_any (p := p) (h.alloc z)
  by_cases hp : 0 ≤ p ∧ p < (l.length : Int)
  · obtain ⟨ad, cap, hv, hlc, hcm, had⟩ := h.form
    obtain ⟨g, rfl⟩ := had (by omega)
    obtain ⟨n, rfl⟩ : ∃ n : Nat, p = (n : Int) := ⟨p.toNat, by omega⟩
    have hn : n < l.length := by omega
    have e2 : atE l (n : Int) = 0 := by unfold atE; rw [if_pos hp]
    have e3 : takeL l (n : Int) = l.eraseIdx n := by unfold takeL; rw [if_pos hp]; rfl
    rw [e2] at hAt ⊢
    rw [e3]
    subst hv
    generalize atD l (n : Int) = d at *
    have HAT := hide hAt
    have H := hide h
    clear hAt e2 e3 hp h had
    go_enter Try.func25, Try.ntmps25
    go_wp2_with fail
    refine HAT.out.mono ?_
    rintro e w1 ⟨rfl, hb1⟩
    have HB1 := hide ((H.out.alloc z).below hb1)
    have hs1 : w.heap.size < w1.heap.size := by have := hb1.size; rw [World.size_alloc] at this; omega
    have HR1 : Hid (w1.heap[w.heap.size]? = some z) := (hb1.block _ (by rw [World.size_alloc]; omega)).trans (heap_alloc_new w z)
    have HM1 : Hid (Mv (Ft b (.slice (some ⟨g, 0, none⟩) l.length cap)) (Ft b (.slice (some ⟨g, 0, none⟩) l.length cap)) w w1) := Mv.trans (Mv.of_below ((Below.refl _ w).alloc (Nat.le_refl _) z)) (Mv.of_below hb1)
    have HG := hide (H.out.ftlt g (.inr rfl)).2
    have HZ := hide hz
    clear hb1 HAT hz
    have HBx := hide (HB1.out.alloc (.cells #[.int .i64 d.num, .int .i64 d.fn, .int .i64 d.fl, .int .i64 d.tn, .int .i64 d.tl, .string d.data] 46))
    have HMx := hide (HM1.out.trans (Mv.of_below ((Below.refl _ w1).alloc (Nat.le_refl _) (.cells #[.int .i64 d.num, .int .i64 d.fn, .int .i64 d.fl, .int .i64 d.tn, .int .i64 d.tl, .string d.data] 46))))
    have HXx := hide (heap_alloc_new w1 (.cells #[.int .i64 d.num, .int .i64 d.fn, .int .i64 d.fl, .int .i64 d.tn, .int .i64 d.tl, .string d.data] 46))
    have HZx : Hid ((w1.alloc (.cells #[.int .i64 d.num, .int .i64 d.fn, .int .i64 d.fl, .int .i64 d.tn, .int .i64 d.tl, .string d.data] 46)).heap[w.heap.size]? = some z) := (Below.heap_alloc w1 _ _ hs1).trans HR1.out
    have hsx : (w1.alloc (.cells #[.int .i64 d.num, .int .i64 d.fn, .int .i64 d.fl, .int .i64 d.tn, .int .i64 d.tl, .string d.data] 46)).heap.size = w1.heap.size + 1 := World.size_alloc _ _
    go_upto_region 3 with fail
    generalize w1.alloc (.cells #[.int .i64 d.num, .int .i64 d.fn, .int .i64 d.fl, .int .i64 d.tn, .int .i64 d.tl, .string d.data] 46) = Wx at *
    clear HB1 HM1 HR1
    have c0 : ∀ o, (Wx.alloc o).cell? ⟨b, 0, none⟩ = some (.slice (some ⟨g, 0, none⟩) l.length cap) := fun o => (HBx.out.alloc o).c0
    have hnl : (n : Int) ≤ (l.length : Int) := by omega
    have hnc : n ≤ cap := by omega
    have HSX := hide hsx
    clear hsx
    go_upto_region 5 with (at_builtin; refine wpList_append_own _ rfl _ _ 28 rfl Wx.heap.size 46 i0 (.agg #[.int .i64 0, .int .i64 0, .int .i64 0, .int .i64 0, .int .i64 0, .string ByteArray.empty]) 6 56 Try.underlying28 hi0 hz0 hz1 hz2 rfl (by decide) (.slice (some ⟨Wx.heap.size, 0, none⟩) 0 0) 0 [] rfl (World.ownsRow_made Wx #[] 0 (Nat.le_refl _) (by decide) rfl) ⟨g, 0, none⟩ n cap (dcs (l.take n)) rfl (by rw [dcs_len, List.length_take, Nat.min_eq_left (by omega)]) (fun j u hu => Lib.cell?_alloc_some _ (HBx.out.row.cells (g := g) rfl j u (by rw [← dcs_take] at hu; rw [List.getElem?_take] at hu; split at hu; exact hu; cases hu))) (oneC_dcs _) (by unfold maxLen; omega) (by omega) (by rw [World.size_alloc]; omega) ?_; intro v3 w3 hown3 hgrow3 hnil3)
    rw [Nat.zero_add, List.nil_append] at hown3
    have HO3 := hide hown3
    have HL3 := hide (((Below.refl Wx.heap.size Wx).alloc (Nat.le_refl _) (.cells #[] 46)).grown hgrow3 (by rw [World.size_alloc]; omega) (fun k hk => by simp only [Value.ownBlock] at hk; injection hk with hk; omega))
    clear hown3 hgrow3 hnil3 c0
    have HB3 := hide (HBx.out.below HL3.out)
    have c0 := HB3.out.c0
    obtain ⟨A, hA, hsrc⟩ : ∃ A : Addr, (if cap = n + 1 then some (⟨g, 0, none⟩ : Addr) else some ⟨g, (n + 1) * 6, none⟩) = some A ∧ Hid (∀ t u, (dcs (l.drop (n + 1)))[t]? = some u → w3.cell? (A.add t) = some u) := by
      by_cases hc : cap = n + 1
      · refine ⟨⟨g, 0, none⟩, by simp [hc], fun t u hu => ?_⟩
        rw [List.drop_eq_nil_of_le (by omega)] at hu
        simp [dcs] at hu
      · refine ⟨⟨g, (n + 1) * 6, none⟩, by simp [hc], fun t u hu => ?_⟩
        rw [← dcs_drop, List.getElem?_drop] at hu
        have := HB3.out.row.cells (g := g) rfl ((n + 1) * 6 + t) u hu
        rw [Addr.add_lit, Nat.zero_add] at this
        rw [Addr.add_lit]
        exact this
    have hp0 : (0 : Int) ≤ (n : Int) + 1 := by omega
    have hp1 : (n : Int) + 1 ≤ (l.length : Int) := by omega
    have hp2 : ((n : Int) + 1).toNat = n + 1 := by omega
    go_upto_region 6 with (at_builtin; refine wpList_append_own _ rfl _ _ 28 rfl Wx.heap.size 46 i0 (.agg #[.int .i64 0, .int .i64 0, .int .i64 0, .int .i64 0, .int .i64 0, .string ByteArray.empty]) 6 56 Try.underlying28 hi0 hz0 hz1 hz2 rfl (by decide) v3 n (dcs (l.take n)) rfl HO3.out A (l.length - (n + 1)) (cap - (n + 1)) (dcs (l.drop (n + 1))) rfl (by rw [dcs_len, List.length_drop]) hsrc.out (oneC_dcs _) (by unfold maxLen; omega) (by omega) HL3.out.size ?_; intro v4 w4 hown4 hgrow4 hnil4; obtain ⟨ad4, n4, c4, rfl⟩ := own_slice hown4; have HL4 := hide (HL3.out.grown hgrow4 HL3.out.size (fun k hk => (HO3.out.lt k hk).1)); have x0 := (HBx.out.below HL4.out).c0; have y0 := (HBx.out.below HL4.out).z 0; have HO4 := hide hown4; clear hown4 hgrow4 hnil4 c0)
    have hM : w4.heap[w1.heap.size]? = some (.cells #[.int .i64 d.num, .int .i64 d.fn, .int .i64 d.fl, .int .i64 d.tn, .int .i64 d.tl, .string d.data] 46 (0, 0)) := (HL4.out.block _ (by have := HSX.out; omega)).trans HXx.out
    have hN : w4.heap[w.heap.size]? = some (.cells #[.int .i64 0, .int .i64 0, .int .i64 0, .int .i64 0, .int .i64 0, .string ⟨#[]⟩] 46 (0, 0)) := by rw [HZ.out]; exact (HL4.out.block _ (by have := HSX.out; omega)).trans HZx.out
    obtain ⟨⟨p0, p1, p2, p3, p4, p5⟩, pz⟩ := six_of hM
    obtain ⟨⟨q0, q1, q2, q3, q4, q5⟩, qz⟩ := six_of hN
    have n1 : w1.heap.size ≠ b := by omega
    have n2 : w.heap.size ≠ b := by omega
    have n3 : w.heap.size ≠ w1.heap.size := by omega
    have n4' : w1.heap.size ≠ w.heap.size := by omega
    have n5 : b ≠ w.heap.size := by omega
    have n6 : b ≠ w1.heap.size := by omega
    have hle : n + (l.length - (n + 1)) = (l.eraseIdx n).length := by rw [List.length_eraseIdx_of_lt hn]; omega
    have HEND := hide (bag_put (l' := l.eraseIdx n) HBx.out HMx.out (own_base (base := w.heap.size) (by rw [← hle, erase_eq, dcs_append]; exact HO4.out) (by have := HSX.out; omega)) HL4.out hlt)
    have hnf : ¬ Ft b (.slice ad4 n4 c4) w.heap.size := by
      rintro (e | e)
      · omega
      · have := (HO4.out.lt _ e).1; have := HSX.out; omega
    have HNF := hide hnf
    clear hM hN hle hnf hA hsrc HO3 HL3 HB3
    go_wp2_with fail
    refine bodyPost_ret (by rw [results_cell_tmp rfl]; go_simp; rfl) rfl ?_
    exact ⟨rfl, _, end_six HEND.out (Nat.le_refl _) HNF.out _ _ _ _ _ _⟩
  · have e1 : atD l p = dg0 := by unfold atD; rw [if_neg hp]
    have e2 : atE l p = 30 := by unfold atE; rw [if_neg hp]
    have e3 : takeL l p = l := by unfold takeL; rw [if_neg hp]
    rw [e1, e2] at hAt ⊢
    rw [e3]
    have HAT := hide hAt
    have H := hide h
    clear hAt e1 e2 e3 hp h
    go_enter Try.func25, Try.ntmps25
    go_wp2_with fail
    refine HAT.out.mono ?_
    rintro e w1 ⟨rfl, hb1⟩
    have HB1 := hide ((H.out.alloc z).below hb1)
    have hs1 : w.heap.size < w1.heap.size := by have := hb1.size; rw [World.size_alloc] at this; omega
    have hN : w1.heap[w.heap.size]? = some (.cells #[.int .i64 0, .int .i64 0, .int .i64 0, .int .i64 0, .int .i64 0, .string ⟨#[]⟩] 46 (0, 0)) := by rw [hz]; exact (hb1.block _ (by rw [World.size_alloc]; omega)).trans (heap_alloc_new w z)
    obtain ⟨⟨q0, q1, q2, q3, q4, q5⟩, qz⟩ := six_of hN
    have HM1 : Hid (Mv (Ft b v) (Ft b v) w w1) := Mv.trans (Mv.of_below ((Below.refl _ w).alloc (Nat.le_refl _) z)) (Mv.of_below hb1)
    have hnf : ¬ Ft b v w.heap.size := fun e => absurd (H.out.ftlt _ e).2 (by omega)
    have HNF := hide hnf
    have n3 : w.heap.size ≠ w1.heap.size := by omega
    have n4 : w1.heap.size ≠ w.heap.size := by omega
    clear hb1 HAT hz hN hnf
    go_wp2_with fail
    refine bodyPost_ret (by rw [results_cell_tmp rfl]; go_simp; rfl) rfl ?_
    have hE := end_six ⟨HB1.out, HM1.out⟩ (Nat.le_refl _) HNF.out (.int .i64 dg0.num) (.int .i64 dg0.fn) (.int .i64 dg0.fl) (.int .i64 dg0.tn) (.int .i64 dg0.tl) (.string dg0.data)
    exact ⟨rfl, v, hE.1.alloc _, hE.2.trans (Mv.of_below ((Below.refl _ _).alloc (Nat.le_refl _) _))⟩
end Go.Proofs.Ytnbmgddkaclneaa
