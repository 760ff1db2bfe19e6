import Derived.Test.YtepondcflkledaaGreatMgAM

section
namespace Go.Proofs.YtepondcflkledaaGreat.Q
set_option maxRecDepth 20000
open Go.RowKit

section
variable {T base : Nat} {w : World} {b : Nat} {v : Value} {L : List Rr} {m : Int}
theorem Qm.far (h : Qm T base w b v m L) {X : Nat} (hX : ¬ Ft b v X) (o : Nat) (x : Value) : Qm T base (w.setCell ⟨X, o, none⟩ x) b v m L :=
  h.keep fun k hk => Below.heap_setCell _ ⟨X, o, none⟩ _ k (show k ≠ X from fun e => hX (by rw [← e]; exact hk))
theorem mv_far {F F' : Nat → Prop} {w w' : World} (h : Mv F F' w w') {X : Nat} (hX : w.heap.size ≤ X) (o : Nat) (x : Value) : Mv F F' w (w'.setCell ⟨X, o, none⟩ x) :=
  ⟨h.os, h.tape, h.output, by rw [setCell_size]; exact h.size, fun k hk hn => (Below.heap_setCell _ ⟨X, o, none⟩ _ k (show k ≠ X by omega)).trans (h.block k hk hn), h.foot⟩
/-- what Open tells -/
def opn (m : Int) (L : List Rr) : Int × Int := L.foldl (opF m) (0, 0)
set_option maxHeartbeats 1000000 in
set_option maxRecDepth 8000 in
theorem qclone_any (h : Qm 142 base w b v m L) (hl : L.length ≤ 8) : Calls Tryz.prog 63 #[.pointer (some ⟨b, 0, none⟩)] w fun e w' => ∃ b' v', e = .returned (.pointer (some ⟨b', 0, none⟩)) ∧ Qm 142 w.heap.size w' b' v' m L ∧ Below w.heap.size w w' := by
  obtain ⟨ad, cap, ab, rfl, hR, _⟩ := h.form
  have HC := hide (fun V (hV : Below w.heap.size w V) => (⟨(h.below hV).c0, (h.below hV).c1⟩ : V.cell? ⟨b, 0, none⟩ = some (.int .i64 m) ∧ V.cell? ⟨b, 1, none⟩ = some (.slice ad L.length cap)))
  have HA := hide (fun V (hV : Below w.heap.size w V) => copied_any (cap := cap) (hR.below hV) (by omega))
  clear h hR
  go_enter Tryz.func63, Tryz.ntmps63
  go_wp2_with fail
  refine wp_region_held_drew (S := fun w' => Below w.heap.size w w') (by kernel_rfl) (⟨rfl, rfl, rfl, Nat.le_refl _, fun _ _ => rfl⟩) (fun hHeld => ?_)
  refine wpAnyH_take (i := 0) (v := .pointer (some ⟨b, 0, none⟩)) rfl (by kernel_rfl) (by kernel_rfl) (by kernel_rfl) (fun _ _ _ h => h) (Or.inl ⟨by kernel_rfl, fun w1 hSw => by clear hHeld; obtain ⟨k0, k1⟩ := HC.out _ hSw; go_simp⟩) hHeld ?_
  try simp only [Act.put]
  try simp only [List.getElem_toArray]
  try simp only [List.getElem_cons_succ]
  try simp only [List.getElem_cons_zero]
  try simp only [List.setIfInBounds_toArray]
  try simp only [List.set_cons_succ, List.set_cons_zero]
  refine wpAnyH_take (i := 1) (v := .pointer (some ⟨b, 0, none⟩)) rfl (by kernel_rfl) (by kernel_rfl) (by kernel_rfl) (fun _ _ _ h => h) (Or.inl ⟨by kernel_rfl, fun w1 hSw => by clear hHeld; obtain ⟨k0, k1⟩ := HC.out _ hSw; go_simp⟩) hHeld ?_
  try simp only [Act.put]
  try simp only [List.getElem_toArray]
  try simp only [List.getElem_cons_succ]
  try simp only [List.getElem_cons_zero]
  try simp only [List.setIfInBounds_toArray]
  try simp only [List.set_cons_succ, List.set_cons_zero]
  refine wpAnyH_take (i := 2) (v := .pointer (some ⟨b, 0, none⟩)) rfl (by kernel_rfl) (by kernel_rfl) (by kernel_rfl) (fun _ _ _ h => h) (Or.inl ⟨by kernel_rfl, fun w1 hSw => by clear hHeld; obtain ⟨k0, k1⟩ := HC.out _ hSw; go_simp⟩) hHeld ?_
  try simp only [Act.put]
  try simp only [List.getElem_toArray]
  try simp only [List.getElem_cons_succ]
  try simp only [List.getElem_cons_zero]
  try simp only [List.setIfInBounds_toArray]
  try simp only [List.set_cons_succ, List.set_cons_zero]
  refine wpAnyH_take (i := 3) (v := .int .i64 m) rfl (by kernel_rfl) (by kernel_rfl) (by kernel_rfl) (fun _ _ _ h => h) (Or.inl ⟨by kernel_rfl, fun w1 hSw => by clear hHeld; obtain ⟨k0, k1⟩ := HC.out _ hSw; go_simp⟩) hHeld ?_
  try simp only [Act.put]
  try simp only [List.getElem_toArray]
  try simp only [List.getElem_cons_succ]
  try simp only [List.getElem_cons_zero]
  try simp only [List.setIfInBounds_toArray]
  try simp only [List.set_cons_succ, List.set_cons_zero]
  refine wpAnyH_take (i := 4) (v := .pointer (some ⟨b, 0, none⟩)) rfl (by kernel_rfl) (by kernel_rfl) (by kernel_rfl) (fun _ _ _ h => h) (Or.inl ⟨by kernel_rfl, fun w1 hSw => by clear hHeld; obtain ⟨k0, k1⟩ := HC.out _ hSw; go_simp⟩) hHeld ?_
  try simp only [Act.put]
  try simp only [List.getElem_toArray]
  try simp only [List.getElem_cons_succ]
  try simp only [List.getElem_cons_zero]
  try simp only [List.setIfInBounds_toArray]
  try simp only [List.set_cons_succ, List.set_cons_zero]
  refine wpAnyH_take (i := 5) (v := .pointer (some ⟨b, 0, none⟩)) rfl (by kernel_rfl) (by kernel_rfl) (by kernel_rfl) (fun _ _ _ h => h) (Or.inl ⟨by kernel_rfl, fun w1 hSw => by clear hHeld; obtain ⟨k0, k1⟩ := HC.out _ hSw; go_simp⟩) hHeld ?_
  try simp only [Act.put]
  try simp only [List.getElem_toArray]
  try simp only [List.getElem_cons_succ]
  try simp only [List.getElem_cons_zero]
  try simp only [List.setIfInBounds_toArray]
  try simp only [List.set_cons_succ, List.set_cons_zero]
  refine wpAnyH_take (i := 6) (v := .pointer (some ⟨b, 1, none⟩)) rfl (by kernel_rfl) (by kernel_rfl) (by kernel_rfl) (fun _ _ _ h => h) (Or.inl ⟨by kernel_rfl, fun w1 hSw => by clear hHeld; obtain ⟨k0, k1⟩ := HC.out _ hSw; go_simp⟩) hHeld ?_
  try simp only [Act.put]
  try simp only [List.getElem_toArray]
  try simp only [List.getElem_cons_succ]
  try simp only [List.getElem_cons_zero]
  try simp only [List.setIfInBounds_toArray]
  try simp only [List.set_cons_succ, List.set_cons_zero]
  refine wpAnyH_take (i := 7) (v := .slice ad L.length cap) rfl (by kernel_rfl) (by kernel_rfl) (by kernel_rfl) (fun _ _ _ h => h) (Or.inl ⟨by kernel_rfl, fun w1 hSw => by clear hHeld; obtain ⟨k0, k1⟩ := HC.out _ hSw; go_simp⟩) hHeld ?_
  try simp only [Act.put]
  try simp only [List.getElem_toArray]
  try simp only [List.getElem_cons_succ]
  try simp only [List.getElem_cons_zero]
  try simp only [List.setIfInBounds_toArray]
  try simp only [List.set_cons_succ, List.set_cons_zero]
  refine wpAnyH_ready (rs := [8]) (by kernel_rfl) (by simp) ?_
  refine AllReadyH.cons rfl (fun K hK => ?_) AllReadyH.nil
  go_simp
  refine (HA.out _ hHeld).mono ?_
  rintro e w2 ⟨rfl, ho2, hB2⟩
  have HO2 := hide ho2
  have HB2 := hide hB2
  have hHeld0 := hHeld
  refine hK.out _ _ (hHeld.trans (hB2.mono hHeld.size)) (fun hHeld => ?_)
  clear hK K
  try simp only [Act.put]
  try simp only [List.getElem_toArray]
  try simp only [List.getElem_cons_succ]
  try simp only [List.getElem_cons_zero]
  try simp only [List.setIfInBounds_toArray]
  try simp only [List.set_cons_succ, List.set_cons_zero]
  refine wpAnyH_take (i := 9) (v := .agg #[.int .i64 m, .slice (some ⟨w.heap.size, 0, none⟩) L.length L.length]) rfl (by kernel_rfl) (by kernel_rfl) (by kernel_rfl) (fun _ _ _ h => h) (Or.inl ⟨by kernel_rfl, fun w1 hSw => by clear hHeld; obtain ⟨k0, k1⟩ := HC.out _ hSw; go_simp⟩) hHeld ?_
  try simp only [Act.put]
  try simp only [List.getElem_toArray]
  try simp only [List.getElem_cons_succ]
  try simp only [List.getElem_cons_zero]
  try simp only [List.setIfInBounds_toArray]
  try simp only [List.set_cons_succ, List.set_cons_zero]
  refine wpAnyH_ready (rs := [10]) (by kernel_rfl) (by simp) ?_
  refine AllReadyH.cons rfl (fun K hK => ?_) AllReadyH.nil
  go_simp
  refine hK.out _ _ (hHeld.alloc hHeld.size _) (fun hHeld => ?_)
  clear hK K
  try simp only [Act.put]
  try simp only [List.getElem_toArray]
  try simp only [List.getElem_cons_succ]
  try simp only [List.getElem_cons_zero]
  try simp only [List.setIfInBounds_toArray]
  try simp only [List.set_cons_succ, List.set_cons_zero]
  refine wpAnyH_take (i := 11) (v := .pointer (some ⟨w2.heap.size, 0, none⟩)) rfl (by kernel_rfl) (by kernel_rfl) (by kernel_rfl) (fun _ _ _ h => h) (Or.inl ⟨by kernel_rfl, fun w1 hSw => by clear hHeld; obtain ⟨k0, k1⟩ := HC.out _ hSw; go_simp⟩) hHeld ?_
  try simp only [Act.put]
  try simp only [List.getElem_toArray]
  try simp only [List.getElem_cons_succ]
  try simp only [List.getElem_cons_zero]
  try simp only [List.setIfInBounds_toArray]
  try simp only [List.set_cons_succ, List.set_cons_zero]
  refine wpAnyH_done (by kernel_rfl) ?_ _
  have HBf := hide hHeld
  clear hHeld
  go_wp2_with fail
  go_ret
  have hlt2 : w.heap.size < w2.heap.size := (HO2.out.lt w.heap.size rfl).2
  refine ⟨w2.heap.size, .slice (some ⟨w.heap.size, 0, none⟩) L.length L.length, rfl, ⟨heap_alloc_new w2 _, by omega, ?_, ?_⟩, HBf.out⟩
  · have h3 := HO2.out
    refine ⟨h3.1, ?_⟩
    rcases h3.2 with h4 | ⟨g, c, cur, he, hg, hh, h5⟩
    · exact .inl h4
    · exact .inr ⟨g, c, cur, he, hg, (Below.heap_alloc _ _ _ (lt_of_block hh)).trans hh, h5⟩
  · simp only [Value.ownBlock]; intro e; injection e with e; omega

end
end Go.Proofs.YtepondcflkledaaGreat.Q
end

section
namespace Go.Proofs.YtepondcflkledaaGreat.Q
set_option maxRecDepth 20000
open Go.RowKit

/-- a new row -/
def nrow (k : Int) : Rr := ⟨k, 1, 0, 0, 0, 0, 0, 0⟩
section
variable {base : Nat} {w : World} {b : Nat} {v : Value} {L : List Rr} {m : Int}
theorem Qm.appended {T : Nat} {w2 : World} {o6 : Obj} {g cap : Nat} {r : Rr} (h : Qm T base w b v m L)
    (hown : w2.ownsRow base 82 8 (.slice (some ⟨g, 0, none⟩) (L.length + 1) cap) (L.length + 1) (rcs L ++ r.cs)) (hg : (w.alloc o6).grownBy w2 v.ownBlock) (hat : v.ownBlock = some g ∨ g = w.heap.size + 1) :
    Qm T base (w2.setCell ⟨b, 1, none⟩ (.slice (some ⟨g, 0, none⟩) (L.length + 1) cap)) b (.slice (some ⟨g, 0, none⟩) (L.length + 1) cap) m (L ++ [r]) ∧ Mv (Ft b v) (Ft b (.slice (some ⟨g, 0, none⟩) (L.length + 1) cap)) w (w2.setCell ⟨b, 1, none⟩ (.slice (some ⟨g, 0, none⟩) (L.length + 1) cap)) := by
  have hlt := h.lt
  have hgb : g ≠ b := by
    rcases hat with h1 | h1
    · exact fun e => h.apt (by rw [← e]; exact h1)
    · omega
  have hsz : (w.alloc o6).heap.size = w.heap.size + 1 := World.size_alloc _ _
  have hb2 : w2.heap[b]? = some (.cells #[.int .i64 m, v] T (0, 0)) := (hg.block b (by omega) (fun e => h.apt e.symm)).trans ((h.alloc o6).blk)
  have hl : (L ++ [r]).length = L.length + 1 := by simp
  have hd : rcs (L ++ [r]) = rcs L ++ r.cs := by rw [rcs_append, rcs_one]
  refine ⟨Qm.put1 hb2 h.low (by rw [hl, hd]; exact hown) (by simp only [Value.ownBlock]; intro e; injection e with e; exact hgb e), ?_⟩
  refine ⟨hg.os, hg.tape, hg.output, ?_, fun k hk hn => ?_, fun k hk => ?_⟩
  · have h1 := hg.size
    rw [setCell_size]
    omega
  · rw [Below.heap_setCell w2 ⟨b, 1, none⟩ _ k (fun e => hn (.inl e)), hg.block k (by omega) (fun e => hn (.inr e.symm))]
    exact Below.heap_alloc w o6 k hk
  · rcases hk with rfl | hk
    · exact .inl (.inl rfl)
    · simp only [Value.ownBlock] at hk
      injection hk with hk
      subst hk
      rcases hat with h1 | h1
      · exact .inl (.inr h1)
      · exact .inr (by omega)
set_option maxHeartbeats 1000000 in
set_option maxRecDepth 8000 in
theorem submit_yes (h : Qm 142 base w b v m L) (hl : L.length < 8) : Calls Tryz.prog 128 #[.pointer (some ⟨b, 0, none⟩)] w fun e w' => e = .returned (.tuple #[.int .i64 ((L.length : Int) + 1), .int .i64 0]) ∧ ∃ v', Qm 142 base w' b v' m (L ++ [nrow ((L.length : Int) + 1)]) ∧ Mv (Ft b v) (Ft b v') w w' := by
  obtain ⟨i0, hi, hz0, hz1, hz2⟩ := info_parts Tryz.infoR
  obtain ⟨ad, cap, ab, rfl, _, _⟩ := h.form
  have hlt := h.lt
  have c1 := h.c1
  have hbase : base ≤ w.heap.size := Nat.le_trans h.low (Nat.le_of_lt hlt)
  have hlI : ¬ (8 : Int) ≤ (L.length : Int) := by omega
  have HQ := hide h
  clear h
  go_enter Tryz.func128, Tryz.ntmps128
  go_wp2_with (at_builtin; refine wpList_append_lies _ rfl _ _ 96 rfl base 82 i0 rr0.val 8 64 Tryz.underlying96 hi hz0 hz1 hz2 rfl (by decide) (.slice ad L.length cap) L.length (rcs L) rfl ((HQ.out.alloc _).row) ⟨w.heap.size, 0, none⟩ 1 1 [.int .i64 ((L.length : Int) + 1), .int .i64 1, .int .i64 0, .int .i64 0, .int .i64 0, .int .i64 0, .int .i64 0, .int .u64 0] rfl rfl (World.news_of_block (cs := #[.int .i64 ((L.length : Int) + 1), .int .i64 1, .int .i64 0, .int .i64 0, .int .i64 0, .int .i64 0, .int .i64 0, .int .u64 0]) (t := 82) (fr := (0, 0)) (heap_alloc_new w _)) (by simp [Value.oneCell']) (by decide) (by unfold maxLen; omega) (by omega) (by rw [World.size_alloc]; omega) (w.heap.size + 1) (by rw [World.size_alloc]) ?_; intro g cap' w2 hown hgrow hat hlt2; (have c2 : w2.cell? ⟨b, 1, none⟩ = some (.slice ad L.length cap) := hgrow.cell (Lib.cell?_alloc_some _ c1) (fun e => HQ.out.apt e.symm)); (have z2 : w2.frozen? ⟨b, 1, none⟩ = false := (hgrow.frozen_far ⟨b, 1, none⟩ (by show b < (w.alloc _).heap.size; rw [World.size_alloc]; omega) (fun e => HQ.out.apt e.symm)).trans ((HQ.out.alloc _).z 1)))
  obtain ⟨hq2, hm2⟩ := HQ.out.appended (r := nrow ((L.length : Int) + 1)) hown hgrow hat
  have HQ2 := hide hq2
  have HM2 := hide hm2
  clear hq2 hm2 hown hgrow hat c1
  go_ret2
  exact ⟨rfl, _, HQ2.out, HM2.out⟩
set_option maxHeartbeats 1000000 in
theorem submit_no (h : Qm 142 base w b v m L) (hl : 8 ≤ L.length) : Calls Tryz.prog 128 #[.pointer (some ⟨b, 0, none⟩)] w fun e w' => e = .returned (.tuple #[.int .i64 0, .int .i64 110]) ∧ w' = w := by
  obtain ⟨ad, cap, ab, rfl, _, _⟩ := h.form
  have c1 := h.c1
  have hlI : (8 : Int) ≤ (L.length : Int) := by omega
  clear h
  go_enter Tryz.func128, Tryz.ntmps128
  go_wp2
  go_ret2
  exact ⟨rfl, rfl⟩
end
end Go.Proofs.YtepondcflkledaaGreat.Q
end

section
namespace Go.Proofs.YtepondcflkledaaGreat.Q
set_option maxRecDepth 20000
open Go.RowKit

section
variable {base : Nat} {w : World} {b : Nat} {v : Value} {L : List Rr} {m : Int}
/-- the greatest badge -/
def gb (L : List Rr) : Int := L.foldl gbF 0
/-- a row that is granted -/
def grt (r : Rr) (g n l : Int) : Rr := ⟨r.job, 2, r.att + 1, g, n, l, r.code, r.bits⟩
def grE (L : List Rr) (j g n l : Int) : Int := if ¬ (1 ≤ j ∧ j ≤ (L.length : Int)) then 111 else if (rowR L j).st ≠ 1 then 112 else if g ≤ gb L ∨ 1099511627776 < g then 113 else if ¬ hMay n l then 1 else 0
def grL (L : List Rr) (j g n l : Int) : List Rr := if grE L j g n l = 0 then L.set (j - 1).toNat (grt (rowR L j) g n l) else L
theorem rowR_in {j : Int} (h : 1 ≤ j ∧ j ≤ (L.length : Int)) : ∃ hi : (j - 1).toNat < L.length, rowR L j = L[(j - 1).toNat] := by
  have hi : (j - 1).toNat < L.length := by omega
  refine ⟨hi, ?_⟩
  unfold rowR
  rw [if_pos h, List.getD_eq_getElem?_getD, List.getElem?_eq_getElem hi]; rfl
set_option maxHeartbeats 2000000 in
set_option maxRecDepth 8000 in
theorem grant_any (h : Qm 142 base w b v m L) (hk : Ok m L) (j g n l : Int) : Calls Tryz.prog 129 #[.pointer (some ⟨b, 0, none⟩), .int .i64 j, .int .i64 g, .agg #[.int .i64 n, .int .i64 l]] w fun e w' => e = .returned (.int .i64 (grE L j g n l)) ∧ Qm 142 base w' b v m (grL L j g n l) ∧ Mv (Ft b v) (Ft b v) w w' := by
  obtain ⟨ad, cap, ab, rfl, _, _⟩ := h.form
  have hl := hk.len
  have hlt := h.lt
  have HW0 := hide (below_alloc w (.cells #[.int .i64 n, .int .i64 l] 80))
  have HQ0 := hide (h.below (below_alloc w (.cells #[.int .i64 n, .int .i64 l] 80)))
  have HRo := hide (qrow_any (h.below (below_alloc w (.cells #[.int .i64 n, .int .i64 l] 80))) hl j)
  have hH : (w.alloc (.cells #[.int .i64 n, .int .i64 l] 80)).heap[w.heap.size]? = some (.cells #[.int .i64 n, .int .i64 l] 80 (0, 0)) := heap_alloc_new w _
  have HH := hide hH
  have hsz := World.size_alloc w (.cells #[.int .i64 n, .int .i64 l] 80)
  clear hH
  have hvl : ∀ k, Ft b (.slice ad L.length cap) k → k < w.heap.size := fun k hk => (h.ftlt k hk).2
  by_cases hj : ¬ (1 ≤ j ∧ j ≤ (L.length : Int))
  · have HE : Hid (grE L j g n l = 111) := if_pos hj
    have HL : Hid (grL L j g n l = L) := by show grL L j g n l = L; unfold grL; rw [HE.out]; rfl
    have hB : rowB L j = false := decide_eq_false hj
    rw [hB] at HRo
    clear hj hB
    go_enter Tryz.func129, Tryz.ntmps129
    go_wp2_with fail
    generalize w.alloc (.cells #[.int .i64 n, .int .i64 l] 80) = W0 at *
    refine HRo.out.mono ?_
    rintro e w1 ⟨rfl, hB1⟩
    have HB1 := hide (HW0.out.trans (hB1.mono (by omega)))
    have HQ1 := hide ((HQ0.out.below hB1).alloc (rowR L j).obj)
    have HM1 : Hid (Mv (Ft b (.slice ad L.length cap)) (Ft b (.slice ad L.length cap)) w (w1.alloc (rowR L j).obj)) := hide (mv_alloc (Mv.of_below HB1.out) _)
    clear hB1 HRo HQ0
    go_wp2
    go_ret
    rw [HE.out, HL.out]
    exact ⟨rfl, HQ1.out, HM1.out⟩
  have hj := Classical.not_not.1 hj
  have hB : rowB L j = true := decide_eq_true hj
  obtain ⟨hi, hrr⟩ := rowR_in hj
  have HJ : Hid ((rowR L j).job = ((j - 1).toNat : Int) + 1) := by rw [hrr]; exact hk.job _ hi
  have hat := hk.att _ hi
  rw [← hrr] at hat
  have HI := hide hi
  rw [hB] at HRo
  have HGr : Hid (∀ V, Below (w.alloc (.cells #[.int .i64 n, .int .i64 l] 80)).heap.size (w.alloc (.cells #[.int .i64 n, .int .i64 l] 80)) V → Calls Tryz.prog 148 #[.slice ad L.length cap] V fun e w' => e = .returned (.int .i64 (gb L)) ∧ Below V.heap.size V w') := hide fun V hV => by
    obtain ⟨ad', cap', ab', he, hR', _⟩ := (HQ0.out.below hV).form
    injection he with he1 he2 he3
    subst he1; subst he3
    exact great_any hR' (by omega)
  have HHo := hide (fun V => holder_any V n l)
  have m8 := hk.m8
  have hg1 : ∀ r : Rr, rowR L j = r → r.st ≠ 1 → grE L j g n l = 112 := fun r e h1 => by unfold grE; rw [if_neg (not_not_intro hj), e, if_pos h1]
  have hg2 : (rowR L j).st = 1 → (g ≤ gb L ∨ 1099511627776 < g) → grE L j g n l = 113 := fun h1 h2 => by unfold grE; rw [if_neg (not_not_intro hj), if_neg (not_not_intro h1), if_pos h2]
  have hg3 : (rowR L j).st = 1 → ¬ (g ≤ gb L ∨ 1099511627776 < g) → ¬ hMay n l → grE L j g n l = 1 := fun h1 h2 h3 => by unfold grE; rw [if_neg (not_not_intro hj), if_neg (not_not_intro h1), if_neg h2, if_pos h3]
  have hg4 : (rowR L j).st = 1 → ¬ (g ≤ gb L ∨ 1099511627776 < g) → hMay n l → grE L j g n l = 0 := fun h1 h2 h3 => by unfold grE; rw [if_neg (not_not_intro hj), if_neg (not_not_intro h1), if_neg h2, if_neg (not_not_intro h3)]
  have HL0 : Hid (∀ e, grE L j g n l = e → e ≠ 0 → grL L j g n l = L) := hide fun e h1 h2 => by unfold grL; rw [h1, if_neg h2]
  have HL1 : Hid (grE L j g n l = 0 → grL L j g n l = L.set (j - 1).toNat (grt (rowR L j) g n l)) := hide fun h1 => by unfold grL; rw [h1]; rfl
  have hg1 := hide (hg1 _ rfl)
  have hg2 := hide hg2
  have hg3 := hide hg3
  have hg4 := hide hg4
  clear h hk hj hB hrr hi
  generalize rowR L j = r at *
  generalize (j - 1).toNat = k at *
  generalize gb L = G at *
  go_enter Tryz.func129, Tryz.ntmps129
  go_wp2_with fail
  generalize w.alloc (.cells #[.int .i64 n, .int .i64 l] 80) = W0 at *
  refine HRo.out.mono ?_
  rintro e w1 ⟨rfl, hB1⟩
  have HBa := hide (hB1.alloc hB1.size r.obj)
  have HB1 := hide (HW0.out.trans (hB1.mono (by omega)))
  have HQ1 := hide ((HQ0.out.below hB1).alloc r.obj)
  have HM1 : Hid (Mv (Ft b (.slice ad L.length cap)) (Ft b (.slice ad L.length cap)) w (w1.alloc r.obj)) := hide (mv_alloc (Mv.of_below HB1.out) _)
  have HX1 : Hid (Bx (w1.alloc r.obj) w1.heap.size r) := hide (heap_alloc_new w1 _)
  have hs01 : w.heap.size < w1.heap.size := by have := hB1.size; omega
  have HH1 : Hid ((w1.alloc r.obj).heap[w.heap.size]? = some (.cells #[.int .i64 n, .int .i64 l] 80 (0, 0))) := hide ((Below.heap_alloc _ _ _ hs01).trans ((hB1.block _ (by omega)).trans HH.out))
  have HG1 := hide (HGr.out _ HBa.out)
  have q1 := HQ1.out.c1
  clear hB1 HRo HQ0 HGr HBa HH HW0
  by_cases h1 : r.st ≠ 1
  · have b1 : (r.st != 1) = true := by simpa using h1
    have HE := hide (hg1.out h1)
    have HL := hide (HL0.out _ HE.out (by decide))
    clear h1 hg1 hg2 hg3 hg4 HL0 HL1
    go_wp2
    go_ret
    rw [HE.out, HL.out]
    exact ⟨rfl, HQ1.out, HM1.out⟩
  have h1 := Classical.not_not.1 h1
  have b1 : (r.st != 1) = false := by simp [h1]
  have H1 := hide h1
  clear h1
  go_wp2_with fail
  generalize w1.alloc r.obj = W1 at *
  refine HG1.out.mono ?_
  rintro e w2 ⟨rfl, hB2⟩
  have HQ2 := hide (HQ1.out.below hB2)
  have HM2 := hide (HM1.out.trans (Mv.of_below (F := Ft b (.slice ad L.length cap)) hB2))
  have hx2 : Bx w2 w1.heap.size r := HX1.out.keep (hB2.block _ HX1.out.lt)
  have hh2 : w2.heap[w.heap.size]? = some (.cells #[.int .i64 n, .int .i64 l] 80 (0, 0)) := (hB2.block _ (lt_of_block HH1.out)).trans HH1.out
  have HX2 := hide hx2
  have HH2 := hide hh2
  have n0 : w2.cell? ⟨w.heap.size, 0, none⟩ = some (.int .i64 n) := by simp [World.cell?, hh2]
  have n1 : w2.cell? ⟨w.heap.size, 1, none⟩ = some (.int .i64 l) := by simp [World.cell?, hh2]
  clear hB2 HQ1 HM1 HX1 HH1 HG1 q1 hx2 hh2
  by_cases h2 : g ≤ G ∨ 1099511627776 < g
  · have HE := hide (hg2.out H1.out h2)
    have HL := hide (HL0.out _ HE.out (by decide))
    clear hg1 hg2 hg3 hg4 HL0 HL1
    by_cases h3 : g ≤ G
    · clear h2
      go_wp2
      go_ret
      rw [HE.out, HL.out]
      exact ⟨rfl, HQ2.out, HM2.out⟩
    · have h4 : 1099511627776 < g := by omega
      clear h2
      go_wp2
      go_ret
      rw [HE.out, HL.out]
      exact ⟨rfl, HQ2.out, HM2.out⟩
  have h3 : ¬ g ≤ G := fun x => h2 (.inl x)
  have h4 : ¬ 1099511627776 < g := fun x => h2 (.inr x)
  have H2 := hide h2
  clear h2
  by_cases h5 : ¬ hMay n l
  · have HE := hide (hg3.out H1.out H2.out h5)
    have HL := hide (HL0.out _ HE.out (by decide))
    have hd : decide (hMay n l) = false := decide_eq_false h5
    rw [hd] at HHo
    clear hg1 hg2 hg3 hg4 HL0 HL1 hd h5
    go_wp2_with fail
    refine (HHo.out _).mono ?_
    rintro e w3 ⟨rfl, hB3⟩
    go_wp2
    go_ret
    rw [HE.out, HL.out]
    exact ⟨rfl, HQ2.out.below hB3, HM2.out.trans (Mv.of_below hB3)⟩
  have h5 := Classical.not_not.1 h5
  have HE := hide (hg4.out H1.out H2.out h5)
  have HL := hide (HL1.out HE.out)
  have hd : decide (hMay n l) = true := decide_eq_true h5
  rw [hd] at HHo
  clear hg1 hg2 hg3 hg4 HL0 HL1 hd h5
  go_wp2_with fail
  refine (HHo.out _).mono ?_
  rintro e w3 ⟨rfl, hB3⟩
  have hx3 : Bx w3 w1.heap.size r := HX2.out.keep (hB3.block _ HX2.out.lt)
  have hh3 : w3.heap[w.heap.size]? = some (.cells #[.int .i64 n, .int .i64 l] 80 (0, 0)) := (hB3.block _ (lt_of_block HH2.out)).trans HH2.out
  have hnF : ¬ Ft b (.slice ad L.length cap) w1.heap.size := fun hf => absurd (hvl _ hf) (by omega)
  have HQ3 := hide (HQ2.out.below hB3)
  have HM3 := hide (HM2.out.trans (Mv.of_below (F := Ft b (.slice ad L.length cap)) hB3))
  obtain ⟨d0, d1, d2, d3, d4, d5, d6, d7⟩ := hx3.cells
  have z1 := hx3.z 1
  have z2 := hx3.z 2
  have z3 := hx3.z 3
  have z4 := hx3.z 4
  have z5 := hx3.z 5
  have n0 : w3.cell? ⟨w.heap.size, 0, none⟩ = some (.int .i64 n) := by simp [World.cell?, hh3]
  have n1 : w3.cell? ⟨w.heap.size, 1, none⟩ = some (.int .i64 l) := by simp [World.cell?, hh3]
  clear hB3 hx3 hh3 HHo HX2 HH2 HQ2 HM2
  go_wp2_with fail
  go_region
  go_wp2_with fail
  have hs3 : w.heap.size ≤ w1.heap.size := by omega
  have hq4 := (((((HQ3.out.far hnF 1 (.int .i64 2)).far hnF 2 (.int .i64 (r.att + 1))).far hnF 3 (.int .i64 g)).far hnF 4 (.int .i64 n)).far hnF 5 (.int .i64 l)).drew
  have hm4 := mv_drew (mv_far (mv_far (mv_far (mv_far (mv_far HM3.out hs3 1 (.int .i64 2)) hs3 2 (.int .i64 (r.att + 1))) hs3 3 (.int .i64 g)) hs3 4 (.int .i64 n)) hs3 5 (.int .i64 l))
  have HM4 := hide hm4
  clear HQ3 HM3 d0 d1 d2 d3 d4 d5 d6 d7 z1 z2 z3 z4 z5 n0 n1 hm4
  refine (qput_any hq4 hl HI.out (grt r g n l) HJ.out).mono ?_
  rintro e w5 ⟨rfl, hq5, hm5⟩
  have HQ5 := hide hq5
  have HM5 := hide (HM4.out.trans hm5)
  clear hq4 hq5 hm5 HM4
  go_wp2
  go_ret
  rw [HE.out, HL.out]
  exact ⟨rfl, HQ5.out, HM5.out⟩
end
end Go.Proofs.YtepondcflkledaaGreat.Q
end

section
namespace Go.Proofs.YtepondcflkledaaGreat.Q
set_option maxRecDepth 20000
open Go.RowKit

/-- an attempt that ends without a result, with one -/
def xp (m : Int) (r : Rr) : Rr := ⟨r.job, if r.att = m then 4 else 1, r.att, r.bdg, 0, 0, r.code, r.bits⟩
def stl (r : Rr) (c x : Int) : Rr := ⟨r.job, 3, r.att, r.bdg, 0, 0, c, x⟩
def exJ (L : List Rr) (g : Int) : Int := match hix g L with | none => 0 | some i => (i : Int) + 1
def exE (L : List Rr) (g : Int) : Int := match hix g L with | none => 113 | some _ => 0
def exL (m : Int) (L : List Rr) (g : Int) : List Rr := match hix g L with | none => L | some i => L.set i (xp m (L.getD i rr0))
def seJ (L : List Rr) (g c x : Int) : Int := match hix g L with | none => 0 | some i => if xMay c x then (i : Int) + 1 else 0
def seE (L : List Rr) (g c x : Int) : Int := match hix g L with | none => 113 | some _ => if xMay c x then 0 else 1
def seL (L : List Rr) (g c x : Int) : List Rr := match hix g L with | none => L | some i => if xMay c x then L.set i (stl (L.getD i rr0) c x) else L
section
variable {base : Nat} {w : World} {b : Nat} {v : Value} {L : List Rr} {m : Int}
theorem Qm.drewN {T : Nat} (h : Qm T base w b v m L) (n : Nat) : Qm T base (w.drewN n) b v m L := h.keep fun _ _ => rfl
theorem mv_drewN {F F' : Nat → Prop} {w w' : World} (h : Mv F F' w w') (n : Nat) : Mv F F' w (w'.drewN n) := ⟨h.os, h.tape, h.output, h.size, h.block, h.foot⟩
theorem hldB_none (hk : ROk m L) {g : Int} (hx : hix g L = none) : hldB g L = false := by
  unfold hldB
  rw [decide_eq_false (hld_none hk hx), Bool.and_false]
theorem hldB_some (hk : ROk m L) {g : Int} {i : Nat} (hx : hix g L = some i) : ∃ hi : i < L.length, hldB g L = true ∧ fnd g L = L[i] ∧ L.getD i rr0 = L[i] := by
  obtain ⟨hi, h1, h2, h3⟩ := hld_some hk hx
  refine ⟨hi, ?_, h1, by rw [List.getD_eq_getElem?_getD, List.getElem?_eq_getElem hi]; rfl⟩
  have h4 := hk.job i hi
  unfold hldB
  rw [h1, decide_eq_true h2, Bool.and_true, decide_eq_false (fun e => by rw [e] at h4; simp [rr0] at h4; omega)]
  rfl
set_option maxHeartbeats 1000000 in
set_option maxRecDepth 8000 in
theorem expire_any (h : Qm 142 base w b v m L) (hk : Ok m L) (g : Int) : Calls Tryz.prog 131 #[.pointer (some ⟨b, 0, none⟩), .int .i64 g] w fun e w' => e = .returned (.tuple #[.int .i64 (exJ L g), .int .i64 (exE L g)]) ∧ Qm 142 base w' b v m (exL m L g) ∧ Mv (Ft b v) (Ft b v) w w' := by
  have hl := hk.len
  have hlt := h.lt
  have hvl : ∀ k, Ft b v k → k < w.heap.size := fun k hk => (h.ftlt k hk).2
  have HQ := hide h
  have HH := hide (qheld_any h hl g)
  cases hx : hix g L with
  | none =>
    have HE1 : Hid (exJ L g = 0) := by show exJ L g = 0; unfold exJ; rw [hx]
    have HE2 : Hid (exE L g = 113) := by show exE L g = 113; unfold exE; rw [hx]
    have HE3 : Hid (exL m L g = L) := by show exL m L g = L; unfold exL; rw [hx]
    rw [hldB_none hk.toROk hx] at HH
    clear h hk hx
    go_enter Tryz.func131, Tryz.ntmps131
    go_wp2_with fail
    refine HH.out.mono ?_
    rintro e w1 ⟨rfl, hB1⟩
    have HQ1 := hide ((HQ.out.below hB1).alloc (fnd g L).obj)
    have HM1 : Hid (Mv (Ft b v) (Ft b v) w (w1.alloc (fnd g L).obj)) := hide (mv_alloc (Mv.of_below hB1) _)
    clear HQ HH hB1
    go_wp2
    go_ret2
    rw [HE1.out, HE2.out, HE3.out]
    exact ⟨rfl, HQ1.out, HM1.out⟩
  | some i =>
    obtain ⟨hi, e1, e2, e3⟩ := hldB_some hk.toROk hx
    have HE1 : Hid (exJ L g = (i : Int) + 1) := by show exJ L g = _; unfold exJ; rw [hx]
    have HE2 : Hid (exE L g = 0) := by show exE L g = _; unfold exE; rw [hx]
    have HE3 : Hid (exL m L g = L.set i (xp m L[i])) := by show exL m L g = _; unfold exL; rw [hx, ← e3]
    have hj := hk.job i hi
    rw [e1, e2] at HH
    clear h hk hx e1 e2 e3
    generalize L[i] = r at *
    go_enter Tryz.func131, Tryz.ntmps131
    go_wp2_with fail
    refine HH.out.mono ?_
    rintro e w1 ⟨rfl, hB1⟩
    have hs1 := hB1.size
    have HQ1 := hide (HQ.out.below hB1)
    have HM1 : Hid (Mv (Ft b v) (Ft b v) w w1) := hide (Mv.of_below hB1)
    have c0 := HQ1.out.c0
    have hlt1 := HQ1.out.lt
    have HJ := hide hj
    clear HQ HH hB1 hj
    by_cases ha : r.att = m
    · have ba : (r.att == m) = true := by simpa using ha
      have HX : Hid (xp m r = ⟨r.job, 4, r.att, r.bdg, 0, 0, r.code, r.bits⟩) := by show xp m r = _; unfold xp; rw [if_pos ha]
      rw [HX.out] at HE3
      clear ha
      go_wp2_with fail
      go_quiet (fail)
      go_wp2_with fail
      have hnF : ¬ Ft b v w1.heap.size := fun hf => absurd (hvl _ hf) (by omega)
      have hq4 := ((HQ1.out.alloc (.cells #[.int .i64 r.job, .int .i64 1, .int .i64 r.att, .int .i64 r.bdg, .int .i64 0, .int .i64 0, .int .i64 r.code, .int .u64 r.bits] 82)).drewN nq).far hnF 1 (.int .i64 4)
      have HM4 := hide (mv_far (mv_drewN (mv_alloc HM1.out (.cells #[.int .i64 r.job, .int .i64 1, .int .i64 r.att, .int .i64 r.bdg, .int .i64 0, .int .i64 0, .int .i64 r.code, .int .u64 r.bits] 82)) nq) hs1 1 (.int .i64 4))
      have HX4 : Hid (Bx (((w1.alloc (.cells #[.int .i64 r.job, .int .i64 1, .int .i64 r.att, .int .i64 r.bdg, .int .i64 0, .int .i64 0, .int .i64 r.code, .int .u64 r.bits] 82)).drewN nq).setCell ⟨w1.heap.size, 1, none⟩ (.int .i64 4)) w1.heap.size ⟨r.job, 4, r.att, r.bdg, 0, 0, r.code, r.bits⟩) := hide (heap_set_self _ _ 1 (.int .i64 4) _ _ _ (heap_alloc_new w1 (.cells #[.int .i64 r.job, .int .i64 1, .int .i64 r.att, .int .i64 r.bdg, .int .i64 0, .int .i64 0, .int .i64 r.code, .int .u64 r.bits] 82)))
      refine (qput_any hq4 hl hi ⟨r.job, 4, r.att, r.bdg, 0, 0, r.code, r.bits⟩ HJ.out).mono ?_
      rintro e w5 ⟨rfl, hq5, hm5⟩
      have HQ5 := hide hq5
      have HM5 := hide (HM4.out.trans hm5)
      have hx5 : Bx w5 w1.heap.size ⟨r.job, 4, r.att, r.bdg, 0, 0, r.code, r.bits⟩ := HX4.out.keep (hm5.block _ HX4.out.lt hnF)
      obtain ⟨d0, _⟩ := hx5.cells
      simp only at d0
      clear hq4 hq5 hm5 HM4 HX4 hx5 c0
      go_wp2
      go_ret2
      rw [HE1.out, HE2.out, HE3.out, ← HJ.out]
      exact ⟨rfl, HQ5.out, HM5.out⟩
    · have ba : (r.att == m) = false := by simpa using ha
      have HX : Hid (xp m r = ⟨r.job, 1, r.att, r.bdg, 0, 0, r.code, r.bits⟩) := by show xp m r = _; unfold xp; rw [if_neg ha]
      rw [HX.out] at HE3
      clear ha
      go_wp2_with fail
      go_quiet (fail)
      go_wp2_with fail
      have hnF : ¬ Ft b v w1.heap.size := fun hf => absurd (hvl _ hf) (by omega)
      have hq4 := (HQ1.out.alloc (.cells #[.int .i64 r.job, .int .i64 1, .int .i64 r.att, .int .i64 r.bdg, .int .i64 0, .int .i64 0, .int .i64 r.code, .int .u64 r.bits] 82)).drewN nq
      have HM4 := hide (mv_drewN (mv_alloc HM1.out (.cells #[.int .i64 r.job, .int .i64 1, .int .i64 r.att, .int .i64 r.bdg, .int .i64 0, .int .i64 0, .int .i64 r.code, .int .u64 r.bits] 82)) nq)
      have HX4 : Hid (Bx ((w1.alloc (.cells #[.int .i64 r.job, .int .i64 1, .int .i64 r.att, .int .i64 r.bdg, .int .i64 0, .int .i64 0, .int .i64 r.code, .int .u64 r.bits] 82)).drewN nq) w1.heap.size ⟨r.job, 1, r.att, r.bdg, 0, 0, r.code, r.bits⟩) := hide (heap_alloc_new w1 (.cells #[.int .i64 r.job, .int .i64 1, .int .i64 r.att, .int .i64 r.bdg, .int .i64 0, .int .i64 0, .int .i64 r.code, .int .u64 r.bits] 82))
      refine (qput_any hq4 hl hi ⟨r.job, 1, r.att, r.bdg, 0, 0, r.code, r.bits⟩ HJ.out).mono ?_
      rintro e w5 ⟨rfl, hq5, hm5⟩
      have HQ5 := hide hq5
      have HM5 := hide (HM4.out.trans hm5)
      have hx5 : Bx w5 w1.heap.size ⟨r.job, 1, r.att, r.bdg, 0, 0, r.code, r.bits⟩ := HX4.out.keep (hm5.block _ HX4.out.lt hnF)
      obtain ⟨d0, _⟩ := hx5.cells
      simp only at d0
      clear hq4 hq5 hm5 HM4 HX4 hx5 c0
      go_wp2
      go_ret2
      rw [HE1.out, HE2.out, HE3.out, ← HJ.out]
      exact ⟨rfl, HQ5.out, HM5.out⟩
set_option maxHeartbeats 1000000 in
set_option maxRecDepth 8000 in
theorem settle_any (h : Qm 142 base w b v m L) (hk : Ok m L) (g c x : Int) : Calls Tryz.prog 132 #[.pointer (some ⟨b, 0, none⟩), .int .i64 g, .agg #[.int .i64 c, .int .u64 x]] w fun e w' => e = .returned (.tuple #[.int .i64 (seJ L g c x), .int .i64 (seE L g c x)]) ∧ Qm 142 base w' b v m (seL L g c x) ∧ Mv (Ft b v) (Ft b v) w w' := by
  have hl := hk.len
  have hlt := h.lt
  have hvl : ∀ k, Ft b v k → k < w.heap.size := fun k hk => (h.ftlt k hk).2
  have HQ := hide (h.alloc (.cells #[.int .i64 c, .int .u64 x] 76))
  have HM := hide (mv_alloc (mv_refl (Ft b v) w) (.cells #[.int .i64 c, .int .u64 x] 76))
  have HH := hide (qheld_any (h.alloc (.cells #[.int .i64 c, .int .u64 x] 76)) hl g)
  have hsz := World.size_alloc w (.cells #[.int .i64 c, .int .u64 x] 76)
  have HR0 : Hid ((w.alloc (.cells #[.int .i64 c, .int .u64 x] 76)).heap[w.heap.size]? = some (.cells #[.int .i64 c, .int .u64 x] 76 (0, 0))) := hide (heap_alloc_new w _)
  cases hx : hix g L with
  | none =>
    have HE1 : Hid (seJ L g c x = 0) := by show seJ L g c x = 0; unfold seJ; rw [hx]
    have HE2 : Hid (seE L g c x = 113) := by show seE L g c x = 113; unfold seE; rw [hx]
    have HE3 : Hid (seL L g c x = L) := by show seL L g c x = L; unfold seL; rw [hx]
    rw [hldB_none hk.toROk hx] at HH
    clear h hk hx
    go_enter Tryz.func132, Tryz.ntmps132
    go_wp2_with fail
    generalize w.alloc (.cells #[.int .i64 c, .int .u64 x] 76) = W0 at *
    refine HH.out.mono ?_
    rintro e w1 ⟨rfl, hB1⟩
    have HQ1 := hide ((HQ.out.below hB1).alloc (fnd g L).obj)
    have HM1 : Hid (Mv (Ft b v) (Ft b v) w (w1.alloc (fnd g L).obj)) := hide (mv_alloc (HM.out.trans (Mv.of_below hB1)) _)
    clear HQ HH hB1 HM
    go_wp2
    go_ret2
    rw [HE1.out, HE2.out, HE3.out]
    exact ⟨rfl, HQ1.out, HM1.out⟩
  | some i =>
    obtain ⟨hi, e1, e2, e3⟩ := hldB_some hk.toROk hx
    have HRa := hide (fun V => result_any V c x)
    have HJ := hide (hk.job i hi)
    rw [e1, e2] at HH
    by_cases hm : xMay c x
    · have HE1 : Hid (seJ L g c x = (i : Int) + 1) := by show seJ L g c x = _; unfold seJ; rw [hx]; exact if_pos hm
      have HE2 : Hid (seE L g c x = 0) := by show seE L g c x = _; unfold seE; rw [hx]; exact if_pos hm
      have HE3 : Hid (seL L g c x = L.set i (stl L[i] c x)) := by show seL L g c x = _; unfold seL; rw [hx, ← e3]; exact if_pos hm
      rw [decide_eq_true hm] at HRa
      clear h hk hx e1 e2 e3 hm
      generalize L[i] = r at *
      go_enter Tryz.func132, Tryz.ntmps132
      go_wp2_with fail
      generalize w.alloc (.cells #[.int .i64 c, .int .u64 x] 76) = W0 at *
      refine HH.out.mono ?_
      rintro e w1 ⟨rfl, hB1⟩
      have hs1 := hB1.size
      have HQ1 := hide ((HQ.out.below hB1).alloc r.obj)
      have HM1 : Hid (Mv (Ft b v) (Ft b v) w (w1.alloc r.obj)) := hide (mv_alloc (HM.out.trans (Mv.of_below hB1)) _)
      have hr1 : w1.heap[w.heap.size]? = some (.cells #[.int .i64 c, .int .u64 x] 76 (0, 0)) := (hB1.block _ (lt_of_block HR0.out)).trans HR0.out
      have hrl := lt_of_block hr1
      have r0 : w1.cell? ⟨w.heap.size, 0, none⟩ = some (.int .i64 c) := by simp [World.cell?, hr1]
      have r1 : w1.cell? ⟨w.heap.size, 1, none⟩ = some (.int .u64 x) := by simp [World.cell?, hr1]
      have HR1 : Hid ((w1.alloc r.obj).heap[w.heap.size]? = some (.cells #[.int .i64 c, .int .u64 x] 76 (0, 0))) := hide ((Below.heap_alloc _ _ _ hrl).trans hr1)
      have HX1 : Hid (Bx (w1.alloc r.obj) w1.heap.size r) := hide (heap_alloc_new w1 _)
      clear HQ HH hB1 HM HR0 hr1
      go_wp2_with fail
      refine (HRa.out _).mono ?_
      rintro e w2 ⟨rfl, hB2⟩
      have hnF : ¬ Ft b v w1.heap.size := fun hf => absurd (hvl _ hf) (by omega)
      have hs3 : w.heap.size ≤ w1.heap.size := by omega
      have HQ2 := hide (HQ1.out.below hB2)
      have HM2 := hide (HM1.out.trans (Mv.of_below (F := Ft b v) hB2))
      have hx2 : Bx w2 w1.heap.size r := HX1.out.keep (hB2.block _ HX1.out.lt)
      have HX2 := hide hx2
      have hr2 := (hB2.block _ (lt_of_block HR1.out)).trans HR1.out
      have q0 : w2.cell? ⟨w.heap.size, 0, none⟩ = some (.int .i64 c) := by simp [World.cell?, hr2]
      have q1 : w2.cell? ⟨w.heap.size, 1, none⟩ = some (.int .u64 x) := by simp [World.cell?, hr2]
      obtain ⟨d0, d1, d2, d3, d4, d5, d6, d7⟩ := hx2.cells
      have z1 := hx2.z 1
      have z4 := hx2.z 4
      have z5 := hx2.z 5
      have z6 := hx2.z 6
      have z7 := hx2.z 7
      clear hB2 hx2 hr2 HX1 HR1 HQ1 HM1 r0 r1 HRa
      go_wp2_with fail
      go_region
      go_wp2_with fail
      have hq4 := (((((HQ2.out.far hnF 1 (.int .i64 3)).far hnF 4 (.int .i64 0)).far hnF 5 (.int .i64 0)).far hnF 6 (.int .i64 c)).far hnF 7 (.int .u64 x)).drew
      have HM4 := hide (mv_drew (mv_far (mv_far (mv_far (mv_far (mv_far HM2.out hs3 1 (.int .i64 3)) hs3 4 (.int .i64 0)) hs3 5 (.int .i64 0)) hs3 6 (.int .i64 c)) hs3 7 (.int .u64 x)))
      have hx4 := heap_set_self _ _ 7 (.int .u64 x) _ _ _ (heap_set_self _ _ 6 (.int .i64 c) _ _ _ (heap_set_self _ _ 5 (.int .i64 0) _ _ _ (heap_set_self _ _ 4 (.int .i64 0) _ _ _ (heap_set_self _ _ 1 (.int .i64 3) _ _ _ HX2.out))))
      simp only [List.setIfInBounds_toArray, List.set_cons_zero, List.set_cons_succ] at hx4
      have HX4 := hide hx4
      clear HQ2 HM2 HX2 hx4 d0 d1 d2 d3 d4 d5 d6 d7 z1 z4 z5 z6 z7 q0 q1
      refine (qput_any hq4 hl hi (stl r c x) HJ.out).mono ?_
      rintro e w5 ⟨rfl, hq5, hm5⟩
      have HQ5 := hide hq5
      have HM5 := hide (HM4.out.trans hm5)
      have hx5 : Bx w5 w1.heap.size (stl r c x) := (hm5.block _ (lt_of_block HX4.out) hnF).trans HX4.out
      obtain ⟨d0, _⟩ := hx5.cells
      simp only [stl] at d0
      clear hq4 hq5 hm5 HM4 HX4 hx5
      go_wp2
      go_ret2
      rw [HE1.out, HE2.out, HE3.out, ← HJ.out]
      exact ⟨rfl, HQ5.out, HM5.out⟩
    · have HE1 : Hid (seJ L g c x = 0) := by show seJ L g c x = _; unfold seJ; rw [hx]; exact if_neg hm
      have HE2 : Hid (seE L g c x = 1) := by show seE L g c x = _; unfold seE; rw [hx]; exact if_neg hm
      have HE3 : Hid (seL L g c x = L) := by show seL L g c x = _; unfold seL; rw [hx]; exact if_neg hm
      rw [decide_eq_false hm] at HRa
      clear h hk hx e1 e2 e3 hm
      generalize L[i] = r at *
      go_enter Tryz.func132, Tryz.ntmps132
      go_wp2_with fail
      generalize w.alloc (.cells #[.int .i64 c, .int .u64 x] 76) = W0 at *
      refine HH.out.mono ?_
      rintro e w1 ⟨rfl, hB1⟩
      have HQ1 := hide ((HQ.out.below hB1).alloc r.obj)
      have HM1 : Hid (Mv (Ft b v) (Ft b v) w (w1.alloc r.obj)) := hide (mv_alloc (HM.out.trans (Mv.of_below hB1)) _)
      have hr1 : w1.heap[w.heap.size]? = some (.cells #[.int .i64 c, .int .u64 x] 76 (0, 0)) := (hB1.block _ (lt_of_block HR0.out)).trans HR0.out
      have hrl := lt_of_block hr1
      have r0 : w1.cell? ⟨w.heap.size, 0, none⟩ = some (.int .i64 c) := by simp [World.cell?, hr1]
      have r1 : w1.cell? ⟨w.heap.size, 1, none⟩ = some (.int .u64 x) := by simp [World.cell?, hr1]
      clear HQ HH hB1 HM HR0 hr1
      go_wp2_with fail
      refine (HRa.out _).mono ?_
      rintro e w2 ⟨rfl, hB2⟩
      go_wp2
      go_ret2
      rw [HE1.out, HE2.out, HE3.out]
      exact ⟨rfl, HQ1.out.below hB2, HM1.out.trans (Mv.of_below hB2)⟩
end
end Go.Proofs.YtepondcflkledaaGreat.Q
end
