import Derived.Test.YtlaaggpfmcehaaaMgAS
import Derived.Test.YtlaaggpfmcehaaaMgAT

section
namespace Go.Proofs.Ytlaaggpfmcehaaa
open Go.RowKit
open Rc (L V Ch)

/-- a change's cells -/
def C10 (w : World) (A : Nat) (c : Ch) (t : Value) : Prop := w.cell? ⟨A, 0, none⟩ = some (.int .i64 c.k) ∧ w.cell? ⟨A, 1, none⟩ = some (.int .i64 c.n) ∧ w.cell? ⟨A, 2, none⟩ = some (.int .i64 c.jo) ∧ w.cell? ⟨A, 3, none⟩ = some (.int .i64 c.ba) ∧ w.cell? ⟨A, 4, none⟩ = some (.int .i64 c.sl) ∧ w.cell? ⟨A, 5, none⟩ = some (.int .i64 c.li) ∧ w.cell? ⟨A, 6, none⟩ = some (.int .i64 c.rc) ∧ w.cell? ⟨A, 7, none⟩ = some (.int .u64 (c.rb : Int)) ∧ w.cell? ⟨A, 8, none⟩ = some (.string c.pr) ∧ w.cell? ⟨A, 9, none⟩ = some t
theorem c10_of {w : World} {A : Nat} {c : Ch} {t : Value} (h : ∀ i u, (chC c t)[i]? = some u → w.cell? ⟨A, i, none⟩ = some u) : C10 w A c t :=
  ⟨h 0 _ rfl, h 1 _ rfl, h 2 _ rfl, h 3 _ rfl, h 4 _ rfl, h 5 _ rfl, h 6 _ rfl, h 7 _ rfl, h 8 _ rfl, h 9 _ rfl⟩
theorem C10.below {w w' : World} {A : Nat} {c : Ch} {t : Value} (h : C10 w A c t) (hb : Below w.heap.size w w') : C10 w' A c t := by
  obtain ⟨a0, a1, a2, a3, a4, a5, a6, a7, a8, a9⟩ := h
  have hl : A < w.heap.size := World.block_lt_of_cell? _ _ a0
  exact ⟨(hb.cell hl).trans a0, (hb.cell hl).trans a1, (hb.cell hl).trans a2, (hb.cell hl).trans a3, (hb.cell hl).trans a4, (hb.cell hl).trans a5, (hb.cell hl).trans a6, (hb.cell hl).trans a7, (hb.cell hl).trans a8, (hb.cell hl).trans a9⟩
theorem ch_self (c : Ch) : decide (c = c) = true := decide_eq_true rfl
set_option maxHeartbeats 4000000 in
set_option maxRecDepth 8000 in
theorem recordChecks_walk (c : Ch) (t : Value) (w : World) (hT : Tx w t c.tx) (hnil : ∀ m ct, t = .slice none m ct → ct = 0) (hl8 : c.tx.length ≤ 8796093021952) (hrb : c.rb < 18446744073709551616) :
    Calls Try.prog 3 #[.agg (chC c t)] w fun e w' => e = .returned (.bool true) ∧ Below w.heap.size w w' := by
  have hl : c.tx.length ≤ 140737488351232 := by omega
  have HT := hide hT
  obtain ⟨p, cap, rfl, -⟩ := hT
  have hb1 : Below w.heap.size w ((w.alloc (.cells (chC c (.slice p c.tx.length cap)) 27)).alloc (.cells (chC c (.slice p c.tx.length cap)) 27)) := (below_alloc w _).alloc (by simp) _
  have hcell : ∀ i u, (chC c (.slice p c.tx.length cap))[i]? = some u → ((w.alloc (.cells (chC c (.slice p c.tx.length cap)) 27)).alloc (.cells (chC c (.slice p c.tx.length cap)) 27)).cell? ⟨w.heap.size + 1, i, none⟩ = some u := fun i u hi => by
    have := news_new (w.alloc (.cells (chC c (.slice p c.tx.length cap)) 27)) (chC c (.slice p c.tx.length cap)) 27 i u (by rw [Array.getElem?_toList]; exact hi)
    rw [World.size_alloc, Addr.add_lit, Nat.zero_add] at this
    exact this
  have hRw : Rw ((w.alloc (.cells (chC c (.slice p c.tx.length cap)) 27)).alloc (.cells (chC c (.slice p c.tx.length cap)) 27)) (.slice (some ⟨w.heap.size + 1, 0, none⟩) 1 1) [c] :=
    ⟨some ⟨w.heap.size + 1, 0, none⟩, 1, rfl, fun _ => ⟨w.heap.size + 1, 0, rfl, by simp, fun j hj => by
      obtain rfl : j = 0 := by simpa using hj
      exact ⟨_, HT.out.below hb1 (Nat.le_refl _), hl, hrb, fun i u hi => by simpa using hcell i u hi⟩⟩⟩
  have HCp := hide (copy_any hRw (by simp) (fun x hx => by rw [List.mem_singleton.mp hx]; exact hl8) (fun b off cap' hv k hk m ct hm => by
    simp only [Value.slice.injEq, Option.some.injEq, Addr.mk.injEq] at hv
    obtain ⟨⟨rfl, rfl, -⟩, -⟩ := hv
    obtain rfl : k = 0 := by simpa using hk
    have h9 := hcell 9 _ rfl
    simp only [Nat.zero_mul, Nat.zero_add] at hm
    rw [hm] at h9
    injection h9 with h9
    exact hnil m ct h9.symm))
  have HB1 := hide hb1
  have HX : Hid (C10 ((w.alloc (.cells (chC c (.slice p c.tx.length cap)) 27)).alloc (.cells (chC c (.slice p c.tx.length cap)) 27)) w.heap.size c (.slice p c.tx.length cap)) := hide (c10_of fun i u hi => by
    have := news_new w (chC c (.slice p c.tx.length cap)) 27 i u (by rw [Array.getElem?_toList]; exact hi)
    rw [Addr.add_lit, Nat.zero_add] at this
    exact Lib.cell?_alloc_some _ this)
  clear hRw hcell hb1 hnil
  simp only [chC, List.length_singleton] at HCp HB1 HX ⊢
  go_enter Try.func3, Try.ntmps3
  go_wp2_with fail
  refine HCp.out.mono ?_
  rintro e w3 ⟨A, vals, rfl, hv, hC, hA⟩
  obtain ⟨t2, rfl⟩ : ∃ t2, vals = [(c, t2)] := by
    match vals, hv with
    | [(c', t2)], hv => simp at hv; exact ⟨t2, by rw [hv]⟩
  have hT2 := tx_own (hC.txt _ List.mem_cons_self)
  simp only at hT2
  have h0 := hT2
  obtain ⟨p2, cap2, rfl, -⟩ := h0
  have HBw := hide (HB1.out.trans (hC.bel.mono HB1.out.size))
  have HT1 : Hid (∀ V, Below w3.heap.size w3 V → Tx V (.slice p c.tx.length cap) c.tx) := hide fun V hV => HT.out.below (HBw.out.trans (hV.mono HBw.out.size)) (Nat.le_refl _)
  have HT2 : Hid (∀ V, Below w3.heap.size w3 V → Tx V (.slice p2 c.tx.length cap2) c.tx) := hide fun V hV => hT2.below hV (Nat.le_refl _)
  have hS1 : C10 w3 A c (.slice p2 c.tx.length cap2) := c10_of fun i u hi => by
    have := hC.own.cells (g := A) rfl i u (by
      have h10 : i < 10 := by
        by_cases h : i < 10
        · exact h
        · rw [Array.getElem?_eq_none (by show (chC _ _).size ≤ i; simp [chC]; omega)] at hi; cases hi
      have := flatV_get (vals := [(c, Value.slice p2 c.tx.length cap2)]) (j := 0) (i := i) (by simp) h10
      rw [Nat.zero_mul, Nat.zero_add] at this
      rw [this]; exact hi)
    rw [Addr.add_lit, Nat.zero_add] at this
    exact this
  have hS2 := HX.out.below (by simpa using hC.bel)
  have HB0 : Hid (Below w3.heap.size w3 w3.drew) := hide ⟨rfl, rfl, rfl, Nat.le_refl _, fun _ _ => rfl⟩
  have hst : C10 w3 A c (.slice p2 c.tx.length cap2) ∧ C10 w3 w.heap.size c (.slice p c.tx.length cap) := ⟨hS1, hS2⟩
  have hds := ch_self c
  clear hS1 hS2 hT2 hC hv HCp HX
  go_wp2_with fail
  refine wp_region_held_drew (S := fun w' => C10 w' A c (.slice p2 c.tx.length cap2) ∧ C10 w' w.heap.size c (.slice p c.tx.length cap)) (by kernel_rfl) (hst) (fun hHeld => ?_)
  refine wpAnyH_take (i := 0) (v := .slice (some ⟨A, 0, none⟩) 1 3) rfl (by kernel_rfl) (by kernel_rfl) (by kernel_rfl) (fun _ _ _ h => h) (Or.inl ⟨by rfl, fun w1 hSw => by clear hHeld; obtain ⟨⟨a0, a1, a2, a3, a4, a5, a6, a7, a8, a9⟩, c0, c1, c2, c3, c4, c5, c6, c7, c8, c9⟩ := hSw; go_simp⟩) hHeld ?_
  simp only [Act.put, List.setIfInBounds_toArray]
  refine wpAnyH_take (i := 1) (v := .pointer (some ⟨A, 0, none⟩)) rfl (by kernel_rfl) (by kernel_rfl) (by kernel_rfl) (fun _ _ _ h => h) (Or.inl ⟨by rfl, fun w1 hSw => by clear hHeld; obtain ⟨⟨a0, a1, a2, a3, a4, a5, a6, a7, a8, a9⟩, c0, c1, c2, c3, c4, c5, c6, c7, c8, c9⟩ := hSw; go_simp⟩) hHeld ?_
  try simp only [Act.put]
  refine wpAnyH_take (i := 2) (v := .agg #[.int .i64 c.k, .int .i64 c.n, .int .i64 c.jo, .int .i64 c.ba, .int .i64 c.sl, .int .i64 c.li, .int .i64 c.rc, .int .u64 (c.rb : Int), .string c.pr, .slice p2 c.tx.length cap2]) rfl (by kernel_rfl) (by kernel_rfl) (by kernel_rfl) (fun _ _ _ h => h) (Or.inl ⟨by rfl, fun w1 hSw => by clear hHeld; obtain ⟨⟨a0, a1, a2, a3, a4, a5, a6, a7, a8, a9⟩, c0, c1, c2, c3, c4, c5, c6, c7, c8, c9⟩ := hSw; go_simp⟩) hHeld ?_
  try simp only [Act.put]
  refine wpAnyH_take (i := 4) (v := .agg #[.int .i64 c.k, .int .i64 c.n, .int .i64 c.jo, .int .i64 c.ba, .int .i64 c.sl, .int .i64 c.li, .int .i64 c.rc, .int .u64 (c.rb : Int), .string c.pr, .slice p c.tx.length cap]) rfl (by kernel_rfl) (by kernel_rfl) (by kernel_rfl) (fun _ _ _ h => h) (Or.inl ⟨by rfl, fun w1 hSw => by clear hHeld; obtain ⟨⟨a0, a1, a2, a3, a4, a5, a6, a7, a8, a9⟩, c0, c1, c2, c3, c4, c5, c6, c7, c8, c9⟩ := hSw; go_simp⟩) hHeld ?_
  try simp only [Act.put]
  refine wpAnyH_ready (rs := [3]) (by kernel_rfl) (by simp) ?_
  refine AllReadyH.cons rfl (fun K hK => ?_) AllReadyH.nil
  go_simp
  refine (check_any c _ _ (HT2.out _ HB0.out) hl).mono ?_
  rintro e w0a ⟨rfl, hb0⟩
  have HB1 := hide (HB0.out.trans (hb0.mono HB0.out.size))
  have hs0 : _ ∧ _ := ⟨hHeld.1.below hb0, hHeld.2.below hb0⟩
  clear hb0
  refine hK.out _ _ (hs0) (fun hHeld => ?_)
  clear hK K
  refine wpAnyH_ready (rs := [5]) (by kernel_rfl) (by simp) ?_
  refine AllReadyH.cons rfl (fun K hK => ?_) AllReadyH.nil
  go_simp
  refine (rcheck_any c _ _ (HT1.out _ HB1.out)).mono ?_
  rintro e w1a ⟨rfl, hb1⟩
  have HB2 := hide (HB1.out.trans (hb1.mono HB1.out.size))
  have hs1 : _ ∧ _ := ⟨hHeld.1.below hb1, hHeld.2.below hb1⟩
  clear hb1
  refine hK.out _ _ (hs1) (fun hHeld => ?_)
  clear hK K
  refine wpAnyH_take (i := 6) (v := .bool true) rfl (by kernel_rfl) (by kernel_rfl) (by kernel_rfl) (fun _ _ _ h => h) (Or.inl ⟨by rfl, fun w1 hSw => by clear hHeld; obtain ⟨⟨a0, a1, a2, a3, a4, a5, a6, a7, a8, a9⟩, c0, c1, c2, c3, c4, c5, c6, c7, c8, c9⟩ := hSw; go_simp⟩) hHeld ?_
  try simp only [Act.put]
  refine wpAnyH_take (i := 7) (v := .bool true) rfl (by kernel_rfl) (by kernel_rfl) (by kernel_rfl) (fun _ _ _ h => h) (Or.inl ⟨by rfl, fun w1 hSw => by clear hHeld; obtain ⟨⟨a0, a1, a2, a3, a4, a5, a6, a7, a8, a9⟩, c0, c1, c2, c3, c4, c5, c6, c7, c8, c9⟩ := hSw; go_simp⟩) hHeld ?_
  try simp only [Act.put]
  refine wpAnyH_take (i := 8) (v := .slice (some ⟨A, 0, none⟩) 1 3) rfl (by kernel_rfl) (by kernel_rfl) (by kernel_rfl) (fun _ _ _ h => h) (Or.inl ⟨by rfl, fun w1 hSw => by clear hHeld; obtain ⟨⟨a0, a1, a2, a3, a4, a5, a6, a7, a8, a9⟩, c0, c1, c2, c3, c4, c5, c6, c7, c8, c9⟩ := hSw; go_simp⟩) hHeld ?_
  try simp only [Act.put]
  refine wpAnyH_take (i := 9) (v := .pointer (some ⟨A, 0, none⟩)) rfl (by kernel_rfl) (by kernel_rfl) (by kernel_rfl) (fun _ _ _ h => h) (Or.inl ⟨by rfl, fun w1 hSw => by clear hHeld; obtain ⟨⟨a0, a1, a2, a3, a4, a5, a6, a7, a8, a9⟩, c0, c1, c2, c3, c4, c5, c6, c7, c8, c9⟩ := hSw; go_simp⟩) hHeld ?_
  try simp only [Act.put]
  refine wpAnyH_take (i := 10) (v := .agg #[.int .i64 c.k, .int .i64 c.n, .int .i64 c.jo, .int .i64 c.ba, .int .i64 c.sl, .int .i64 c.li, .int .i64 c.rc, .int .u64 (c.rb : Int), .string c.pr, .slice p2 c.tx.length cap2]) rfl (by kernel_rfl) (by kernel_rfl) (by kernel_rfl) (fun _ _ _ h => h) (Or.inl ⟨by rfl, fun w1 hSw => by clear hHeld; obtain ⟨⟨a0, a1, a2, a3, a4, a5, a6, a7, a8, a9⟩, c0, c1, c2, c3, c4, c5, c6, c7, c8, c9⟩ := hSw; go_simp⟩) hHeld ?_
  try simp only [Act.put]
  refine wpAnyH_take (i := 11) (v := .agg #[.int .i64 c.k, .int .i64 c.n, .int .i64 c.jo, .int .i64 c.ba, .int .i64 c.sl, .int .i64 c.li, .int .i64 c.rc, .int .u64 (c.rb : Int), .string c.pr, .slice p c.tx.length cap]) rfl (by kernel_rfl) (by kernel_rfl) (by kernel_rfl) (fun _ _ _ h => h) (Or.inl ⟨by rfl, fun w1 hSw => by clear hHeld; obtain ⟨⟨a0, a1, a2, a3, a4, a5, a6, a7, a8, a9⟩, c0, c1, c2, c3, c4, c5, c6, c7, c8, c9⟩ := hSw; go_simp⟩) hHeld ?_
  try simp only [Act.put]
  refine wpAnyH_ready (rs := [12]) (by kernel_rfl) (by simp) ?_
  refine AllReadyH.cons rfl (fun K hK => ?_) AllReadyH.nil
  go_simp
  refine (sameOne_any (HT2.out _ HB2.out) (HT1.out _ HB2.out) hl).mono ?_
  rintro e w2a ⟨rfl, hb2⟩
  have HB3 := hide (HB2.out.trans (hb2.mono HB2.out.size))
  have hs2 : _ ∧ _ := ⟨hHeld.1.below hb2, hHeld.2.below hb2⟩
  clear hb2
  refine hK.out _ _ (hs2) (fun hHeld => ?_)
  clear hK K
  refine wpAnyH_take (i := 13) (v := .bool true) rfl (by kernel_rfl) (by kernel_rfl) (by kernel_rfl) (fun _ _ _ h => h) (Or.inl ⟨by rfl, fun w1 hSw => by clear hHeld; obtain ⟨⟨a0, a1, a2, a3, a4, a5, a6, a7, a8, a9⟩, c0, c1, c2, c3, c4, c5, c6, c7, c8, c9⟩ := hSw; go_simp⟩) hHeld ?_
  try simp only [Act.put]
  refine wpAnyH_take (i := 14) (v := .bool true) rfl (by kernel_rfl) (by kernel_rfl) (by kernel_rfl) (fun _ _ _ h => h) (Or.inl ⟨by rfl, fun w1 hSw => by clear hHeld; obtain ⟨⟨a0, a1, a2, a3, a4, a5, a6, a7, a8, a9⟩, c0, c1, c2, c3, c4, c5, c6, c7, c8, c9⟩ := hSw; go_simp⟩) hHeld ?_
  try simp only [Act.put]
  refine wpAnyH_ready (rs := [15]) (by kernel_rfl) (by simp) ?_
  refine AllReadyH.cons rfl (fun K hK => ?_) AllReadyH.nil
  go_simp
  refine (fixed_any _).mono ?_
  rintro e w3a ⟨rfl, hb3⟩
  have HB4 := hide (HB3.out.trans (hb3.mono HB3.out.size))
  have hs3 : _ ∧ _ := ⟨hHeld.1.below hb3, hHeld.2.below hb3⟩
  clear hb3
  refine hK.out _ _ (hs3) (fun hHeld => ?_)
  clear hK K
  refine wpAnyH_take (i := 16) (v := .bool true) rfl (by kernel_rfl) (by kernel_rfl) (by kernel_rfl) (fun _ _ _ h => h) (Or.inl ⟨by rfl, fun w1 hSw => by clear hHeld; obtain ⟨⟨a0, a1, a2, a3, a4, a5, a6, a7, a8, a9⟩, c0, c1, c2, c3, c4, c5, c6, c7, c8, c9⟩ := hSw; go_simp⟩) hHeld ?_
  try simp only [Act.put]
  refine wpAnyH_ready (rs := [17]) (by kernel_rfl) (by simp) ?_
  refine AllReadyH.cons rfl (fun K hK => ?_) AllReadyH.nil
  go_simp
  have HB5 := HB4
  refine hK.out _ _ (hHeld) (fun hHeld => ?_)
  clear hK K
  refine wpAnyH_done (by kernel_rfl) ?_ _
  clear hHeld
  have HBz := HB5
  go_wp2_with fail
  go_ret
  exact ⟨rfl, HBw.out.trans (HBz.out.mono HBw.out.size)⟩
open Go.ChangeShapes Go.WideShapes Go.ChangeAt Go.RowKit Go.Deep
variable {H : Type} {enc : TypeId × Value → H}
theorem texts_at2 {W : World} {n : Nat} {v : Value} {x : DataW H × List MemPlace} (h : DataW.trod enc Try.prog W 0 (fun _ => true) true n 25 [v] = some x) (hw : ∀ k ∈ x.1.weights Try.prog 25, k ≤ reachBytes) :
    ∃ l : List ByteArray, Tx W v l ∧ l.length ≤ 8796093021952 ∧ ∀ m ct, v = .slice none m ct → ct = 0 := by
  rcases open_slice Try.underlying25 h with ⟨hc, _⟩ | ⟨a, len, cap, m, k, D, Pl, hc, _, hl, hm, hmm, hx, hall⟩
  · simp only [List.cons.injEq, and_true] at hc
    rw [hc]
    exact ⟨[], Tx.nil W, by simp, fun m ct h => by injection h with _ _ h; exact h.symm⟩
  · simp only [List.cons.injEq, and_true] at hc
    simp only [if_true] at hmm
    subst hmm
    have hle : len ≤ 8796093021952 := by
      have := hw (len * 16 + (m - len) * 16) (by
        rw [hx]; simp only [DataW.weights, Try.underlying25, Try.bytesS]
        simp only [List.length_map, List.length_range, List.mem_cons]
        left; rw [Nat.add_mul])
      simp only [reachBytes] at this; omega
    have each : ∀ i, i < m → ∃ s : ByteArray, W.cell? (a.add i) = some (.string s) := by
      intro i hi
      obtain ⟨cs', g1, g2⟩ := hall i hi
      rw [Try.cellsS1] at g1
      obtain ⟨_, hlen, hcell⟩ := World.cells?_some g1
      obtain ⟨s, e, _⟩ := DataW.trod_string Try.underlying9 g2
      subst e
      have k0 := hcell 0 (by decide)
      rw [add_add] at k0
      exact ⟨s, by simpa using k0⟩
    obtain ⟨q, hq⟩ := choose_lt each
    refine ⟨(List.range len).map q, ⟨some a, m, by rw [range_len]; exact hc, fun h => ?_⟩, by rw [range_len]; exact hle, fun m ct h => by rw [hc] at h; injection h with h; cases h⟩
    rw [range_len] at h
    obtain ⟨ab, ao, spot⟩ := a
    have hspot : spot = none := by simpa [Addr.add] using World.cell?_spot (hq 0 (by omega))
    subst hspot
    refine ⟨ab, ao, rfl, World.block_lt_of_cell? _ _ (hq 0 (by omega)), fun j hj => ?_⟩
    rw [range_len] at hj
    rw [range_get q len j hj]
    have h1 := hq j (by omega)
    rw [Addr.add_lit] at h1
    exact h1
set_option maxRecDepth 20000 in
set_option maxHeartbeats 1000000 in
/-- a change, opened -/
theorem change_at2 {W : World} {n : Nat} {cs : List Value} {x : DataW H × List MemPlace} (h : DataW.trod enc Try.prog W 0 (fun _ => true) true n 27 cs = some x) (hw : ∀ k ∈ x.1.weights Try.prog 27, k ≤ reachBytes) :
    ∃ (c : Ch) (t : Value), cs = (chC c t).toList ∧ Tx W t c.tx ∧ c.tx.length ≤ 8796093021952 ∧ c.rb < 18446744073709551616 ∧ ∀ m ct, t = .slice none m ct → ct = 0 := by
  obtain ⟨xs, n, _, hxx, hl, hlen, hfi⟩ := DataW.trod_struct Try.underlying27 h
  rw [Try.cellsC10] at hl
  obtain ⟨c0, c1, c2, c3, c4, c5, c6, c7, c8, c9, rfl⟩ : ∃ c0 c1 c2 c3 c4 c5 c6 c7 c8 c9, cs = [c0, c1, c2, c3, c4, c5, c6, c7, c8, c9] := by
    match cs, hl with
    | [c0, c1, c2, c3, c4, c5, c6, c7, c8, c9], _ => exact ⟨c0, c1, c2, c3, c4, c5, c6, c7, c8, c9, rfl⟩
  have hx : ∀ i, i < 9 → ∃ y, xs[i]? = some y := fun i hi => ⟨xs[i]'(by rw [hlen]; exact hi), List.getElem?_eq_getElem _⟩
  obtain ⟨y0, hy0⟩ := hx 0 (by decide)
  have g0 : DataW.trod enc Try.prog W 0 (fun _ => true) true n 3 [c0] = some y0 := by
    have this : DataW.trod enc Try.prog W 0 (fun _ => true) true n 3 ((List.drop 0 [c0, c1, c2, c3, c4, c5, c6, c7, c8, c9]).take (Try.prog.cellsOf 3)) = xs[0]? := hfi 0 _ rfl
    rw [Try.cellsI1] at this
    rw [← hy0]; exact this
  obtain ⟨z0, e0, _, _⟩ := DataW.trod_int Try.underlying3 g0
  obtain ⟨y1, hy1⟩ := hx 1 (by decide)
  have g1 : DataW.trod enc Try.prog W 0 (fun _ => true) true n 3 [c1] = some y1 := by
    have this : DataW.trod enc Try.prog W 0 (fun _ => true) true n 3 ((List.drop 1 [c0, c1, c2, c3, c4, c5, c6, c7, c8, c9]).take (Try.prog.cellsOf 3)) = xs[1]? := hfi 1 _ rfl
    rw [Try.cellsI1] at this
    rw [← hy1]; exact this
  obtain ⟨z1, e1, _, _⟩ := DataW.trod_int Try.underlying3 g1
  obtain ⟨y2, hy2⟩ := hx 2 (by decide)
  have g2 : DataW.trod enc Try.prog W 0 (fun _ => true) true n 3 [c2] = some y2 := by
    have this : DataW.trod enc Try.prog W 0 (fun _ => true) true n 3 ((List.drop 2 [c0, c1, c2, c3, c4, c5, c6, c7, c8, c9]).take (Try.prog.cellsOf 3)) = xs[2]? := hfi 2 _ rfl
    rw [Try.cellsI1] at this
    rw [← hy2]; exact this
  obtain ⟨z2, e2, _, _⟩ := DataW.trod_int Try.underlying3 g2
  obtain ⟨y3, hy3⟩ := hx 3 (by decide)
  have g3 : DataW.trod enc Try.prog W 0 (fun _ => true) true n 3 [c3] = some y3 := by
    have this : DataW.trod enc Try.prog W 0 (fun _ => true) true n 3 ((List.drop 3 [c0, c1, c2, c3, c4, c5, c6, c7, c8, c9]).take (Try.prog.cellsOf 3)) = xs[3]? := hfi 3 _ rfl
    rw [Try.cellsI1] at this
    rw [← hy3]; exact this
  obtain ⟨z3, e3, _, _⟩ := DataW.trod_int Try.underlying3 g3
  obtain ⟨y4, hy4⟩ := hx 4 (by decide)
  have g4 : DataW.trod enc Try.prog W 0 (fun _ => true) true n 3 [c4] = some y4 := by
    have this : DataW.trod enc Try.prog W 0 (fun _ => true) true n 3 ((List.drop 4 [c0, c1, c2, c3, c4, c5, c6, c7, c8, c9]).take (Try.prog.cellsOf 3)) = xs[4]? := hfi 4 _ rfl
    rw [Try.cellsI1] at this
    rw [← hy4]; exact this
  obtain ⟨z4, e4, _, _⟩ := DataW.trod_int Try.underlying3 g4
  obtain ⟨y5, hy5⟩ := hx 5 (by decide)
  have g5 : DataW.trod enc Try.prog W 0 (fun _ => true) true n 3 [c5] = some y5 := by
    have this : DataW.trod enc Try.prog W 0 (fun _ => true) true n 3 ((List.drop 5 [c0, c1, c2, c3, c4, c5, c6, c7, c8, c9]).take (Try.prog.cellsOf 3)) = xs[5]? := hfi 5 _ rfl
    rw [Try.cellsI1] at this
    rw [← hy5]; exact this
  obtain ⟨z5, e5, _, _⟩ := DataW.trod_int Try.underlying3 g5
  obtain ⟨y6, hy6⟩ := hx 6 (by decide)
  have g6 : DataW.trod enc Try.prog W 0 (fun _ => true) true n 24 [c6, c7] = some y6 := by
    have this : DataW.trod enc Try.prog W 0 (fun _ => true) true n 24 ((List.drop 6 [c0, c1, c2, c3, c4, c5, c6, c7, c8, c9]).take (Try.prog.cellsOf 24)) = xs[6]? := hfi 6 _ rfl
    rw [Try.cellsR2] at this
    rw [← hy6]; exact this
  obtain ⟨y7, hy7⟩ := hx 7 (by decide)
  have g7 : DataW.trod enc Try.prog W 0 (fun _ => true) true n 9 [c8] = some y7 := by
    have this : DataW.trod enc Try.prog W 0 (fun _ => true) true n 9 ((List.drop 8 [c0, c1, c2, c3, c4, c5, c6, c7, c8, c9]).take (Try.prog.cellsOf 9)) = xs[7]? := hfi 7 _ rfl
    rw [Try.cellsS1] at this
    rw [← hy7]; exact this
  obtain ⟨z7, e7, _, _⟩ := DataW.trod_string Try.underlying9 g7
  obtain ⟨y8, hy8⟩ := hx 8 (by decide)
  have g8 : DataW.trod enc Try.prog W 0 (fun _ => true) true n 25 [c9] = some y8 := by
    have this : DataW.trod enc Try.prog W 0 (fun _ => true) true n 25 ((List.drop 9 [c0, c1, c2, c3, c4, c5, c6, c7, c8, c9]).take (Try.prog.cellsOf 25)) = xs[8]? := hfi 8 _ rfl
    rw [Try.cellsT1] at this
    rw [← hy8]; exact this
  obtain ⟨tx, hT, hTl, hTn⟩ := texts_at2 g8 (fun k hk => hw k (by
    rw [hxx]
    simp only [DataW.weights, Try.underlying27]
    exact DataW.weights_mem_each (j := 8) rfl (by rw [List.getElem?_map, hy8]; rfl) k hk))
  obtain ⟨us, n2, _, _, hl2, hlen2, hfi2⟩ := DataW.trod_struct Try.underlying24 g6
  have hu : ∀ i, i < 2 → ∃ y, us[i]? = some y := fun i hi => ⟨us[i]'(by rw [hlen2]; exact hi), List.getElem?_eq_getElem _⟩
  obtain ⟨u0, hu0⟩ := hu 0 (by decide)
  obtain ⟨u1, hu1⟩ := hu 1 (by decide)
  have k0 : DataW.trod enc Try.prog W 0 (fun _ => true) true n2 3 [c6] = some u0 := by
    have this : DataW.trod enc Try.prog W 0 (fun _ => true) true n2 3 ((List.drop 0 [c6, c7]).take (Try.prog.cellsOf 3)) = us[0]? := hfi2 0 _ rfl
    rw [Try.cellsI1] at this
    rw [← hu0]; exact this
  have k1 : DataW.trod enc Try.prog W 0 (fun _ => true) true n2 22 [c7] = some u1 := by
    have this : DataW.trod enc Try.prog W 0 (fun _ => true) true n2 22 ((List.drop 1 [c6, c7]).take (Try.prog.cellsOf 22)) = us[1]? := hfi2 1 _ rfl
    rw [Try.cellsU1] at this
    rw [← hu1]; exact this
  obtain ⟨r0, er0, _, _⟩ := DataW.trod_int Try.underlying3 k0
  obtain ⟨r1, er1, _, wr1⟩ := DataW.trod_int Try.underlying22 k1
  have hb := bounds_u64 wr1
  obtain ⟨m, hm⟩ : ∃ m : Nat, r1 = (m : Int) := ⟨r1.toNat, by omega⟩
  simp only [List.cons.injEq, and_true] at e0 e1 e2 e3 e4 e5 e7 er0 er1
  refine ⟨⟨z0, z1, z2, z3, z4, z5, r0, m, z7, tx⟩, c9, ?_, hT, hTl, by show m < _; omega, hTn⟩
  rw [e0, e1, e2, e3, e4, e5, e7, er0, er1, hm]; rfl
/-- a change that came in -/
theorem change_of {W : World} {base : Nat} {v : Value} {d : DataW H} {ps : List MemPlace} (hv : Value.okWide Try.prog W .any base 27 v) (h : DataW.Trod enc Try.prog W 0 (fun _ => true) true 27 v d ps) (hw : ∀ k ∈ d.weights Try.prog 27, k ≤ reachBytes) :
    ∃ (c : Ch) (t : Value), v = .agg (chC c t) ∧ Tx W t c.tx ∧ c.tx.length ≤ 8796093021952 ∧ c.rb < 18446744073709551616 ∧ ∀ m ct, t = .slice none m ct → ct = 0 := by
  obtain ⟨cs, rfl, hsz⟩ := okWide_struct Try.underlying27 hv
  obtain ⟨fuel, hf⟩ := h
  obtain ⟨c, t, hcs, h2⟩ := change_at2 hf hw
  refine ⟨c, t, ?_, h2⟩
  have : cs.toList = (chC c t).toList := hcs
  rw [Array.toList_inj.mp this]
end Go.Proofs.Ytlaaggpfmcehaaa
end
