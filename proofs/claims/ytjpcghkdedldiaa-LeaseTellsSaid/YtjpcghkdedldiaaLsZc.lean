import Derived.Test.YtjpcghkdedldiaaLsZb
namespace Go.Proofs.Ytjpcghkdedldiaa
open Go.RowKit

/-- has it been laid? -/
def gin (x : Lz) (A : List Lz) : Bool := A.any fun y => decide (x.bdg < y.bdg)
def gout (x : Lz) (A : List Lz) : List Lz := if gin x A = true then ins x A else A
theorem ins_end {x : Lz} : ∀ {A : List Lz}, gin x A = false → ins x A = A ++ [x]
  | [], _ => rfl
  | y :: l, h => by
    have h0 : ¬ x.bdg < y.bdg ∧ gin x l = false := by simpa [gin] using h
    unfold ins
    rw [if_neg h0.1, ins_end h0.2]
    rfl
theorem ins_in {x y : Lz} : ∀ {A : List Lz}, gin x A = true → ins x (A ++ [y]) = ins x A ++ [y]
  | [], h => by simp [gin] at h
  | z :: l, h => by
    rw [List.cons_append]
    unfold ins
    split
    · rfl
    · rename_i hz
      have h0 : gin x l = true := by
        unfold gin at h ⊢
        rw [List.any_cons, decide_eq_false hz, Bool.false_or] at h
        exact h
      rw [ins_in h0]
      rfl
theorem gin_snoc (x y : Lz) (A : List Lz) : gin x (A ++ [y]) = (gin x A || decide (x.bdg < y.bdg)) := by simp [gin]
theorem gout_in {x y : Lz} {A : List Lz} (h : gin x A = true) : gin x (A ++ [y]) = true ∧ gout x (A ++ [y]) = gout x A ++ [y] := by
  have h1 : gin x (A ++ [y]) = true := by rw [gin_snoc, h]; rfl
  refine ⟨h1, ?_⟩
  unfold gout
  rw [if_pos h1, if_pos h, ins_in h]
theorem gout_new {x y : Lz} {A : List Lz} (h : gin x A = false) (hy : x.bdg < y.bdg) : gin x (A ++ [y]) = true ∧ gout x A = A ∧ gout x (A ++ [y]) = (A ++ [x]) ++ [y] := by
  have h1 : gin x (A ++ [y]) = true := by rw [gin_snoc, h, decide_eq_true hy]; rfl
  refine ⟨h1, if_neg (by rw [h]; decide), ?_⟩
  unfold gout
  rw [if_pos h1]
  clear h1
  induction A with
  | nil =>
    show ins x [y] = [x, y]
    unfold ins
    exact if_pos hy
  | cons z l ih =>
    have h0 : ¬ x.bdg < z.bdg ∧ gin x l = false := by simpa [gin] using h
    rw [List.cons_append]
    unfold ins
    rw [if_neg h0.1, ih h0.2]
    rfl
theorem gout_old {x y : Lz} {A : List Lz} (h : gin x A = false) (hy : ¬ x.bdg < y.bdg) : gin x (A ++ [y]) = false ∧ gout x (A ++ [y]) = gout x A ++ [y] := by
  have h1 : gin x (A ++ [y]) = false := by rw [gin_snoc, h, decide_eq_false hy]; rfl
  refine ⟨h1, ?_⟩
  unfold gout
  rw [if_neg (by rw [h1]; decide), if_neg (by rw [h]; decide)]
theorem gout_len (x : Lz) (A : List Lz) : (gout x A).length ≤ A.length + 1 := by
  unfold gout
  split
  · rw [ins_len]; exact Nat.le_refl _
  · omega
theorem thr_snoc (j g : Int) (A : List Lz) (y : Lz) : thr j g (A ++ [y]) = (thr j g A || (y.job == j || y.bdg == g)) := by simp [thr]
/-- what is gathered, with the box of the holder -/
structure Gg (w : World) (n l : Int) (v : Value) (A : List Lz) (W : World) : Prop where
  low : Below w.heap.size w W
  hb : W.heap[w.heap.size]? = some (.cells #[.int .i64 n, .int .i64 l] 36 (0, 0))
  row : W.ownsRow (w.heap.size + 1) 54 5 v A.length (lcs A)
section
variable {w W W' : World} {n l : Int} {v : Value} {A : List Lz}
theorem Gg.c (h : Gg w n l v A W) : W.cell? ⟨w.heap.size, 0, none⟩ = some (.int .i64 n) ∧ W.cell? ⟨w.heap.size, 1, none⟩ = some (.int .i64 l) := by
  have := h.hb
  simp [World.cell?, this]
theorem Gg.size (h : Gg w n l v A W) : w.heap.size + 1 ≤ W.heap.size := lt_of_block h.hb
theorem Gg.alloc (h : Gg w n l v A W) (o : Obj) : Gg w n l v A (W.alloc o) := ⟨h.low.alloc h.low.size o, (Below.heap_alloc W o _ (lt_of_block h.hb)).trans h.hb, own_alloc h.row o⟩
theorem Gg.drew (h : Gg w n l v A W) : Gg w n l v A W.drew := ⟨h.low.drew, h.hb, h.row⟩
theorem Gg.app {v' : Value} {B : List Lz} (h : Gg w n l v A W) (hg : W.grownBy W' v.ownBlock) (ho : W'.ownsRow (w.heap.size + 1) 54 5 v' B.length (lcs B)) : Gg w n l v' B W' :=
  ⟨h.low.grown hg h.low.size (fun k e => by have := (h.row.lt k e).1; omega), (hg.block _ (lt_of_block h.hb) (fun e => by have := (h.row.lt _ e.symm).1; omega)).trans h.hb, ho⟩
end

set_option maxRecDepth 100000 in
set_option maxHeartbeats 4000000 in
theorem xgrant_arg {w : World} {x : Nat} {j g n l : Int} (h : j < 1 ∨ 8 < j ∨ g < 1 ∨ 1099511627776 < g) :
    Calls Try.prog 22 #[.pointer (some ⟨x, 0, none⟩), .int .i64 j, .int .i64 g, .agg #[.int .i64 n, .int .i64 l]] w fun e w' => e = .returned (.int .i64 1) ∧ Below w.heap.size w w' := by
  have e1 : ∃ b1, decide (j < 1) = b1 := ⟨_, rfl⟩
  have e2 : ∃ b2, decide (8 < j) = b2 := ⟨_, rfl⟩
  have e3 : ∃ b3, decide (g < 1) = b3 := ⟨_, rfl⟩
  have e4 : ∃ b4, decide (1099511627776 < g) = b4 := ⟨_, rfl⟩
  obtain ⟨b1, h1⟩ := e1
  obtain ⟨b2, h2⟩ := e2
  obtain ⟨b3, h3⟩ := e3
  obtain ⟨b4, h4⟩ := e4
  have hor : (b1 || b2 || b3 || b4) = true := by
    rw [← h1, ← h2, ← h3, ← h4]
    simp only [Bool.or_eq_true, decide_eq_true_eq]
    omega
  clear h
  cases b1 <;> cases b2 <;> cases b3 <;> cases b4 <;> first
    | (exfalso; revert hor; decide)
    | (clear hor
       go_enter Try.func22, Try.ntmps22
       go_wp2
       go_ret
       exact ⟨rfl, below_alloc w _⟩)

set_option maxRecDepth 100000 in
set_option maxHeartbeats 8000000 in
theorem xgrant_in {w : World} {x : Nat} {T : Int} {ad : Option Addr} {ab cap : Nat} {L : List Lz} (h : Xt w x T ad ab cap L) (hl : L.length ≤ 12) {j g n l : Int} (hj1 : 1 ≤ j) (hj2 : j ≤ 8) (hg1 : 1 ≤ g) (hg2 : g ≤ 1099511627776) :
    Calls Try.prog 22 #[.pointer (some ⟨x, 0, none⟩), .int .i64 j, .int .i64 g, .agg #[.int .i64 n, .int .i64 l]] w fun e w' => e = .returned (.int .i64 (if thr j g L = true then 121 else 0)) ∧ (∃ ad' ab' cap', Xt w' x T ad' ab' cap' (if thr j g L = true then L else ins ⟨j, g, n, l, T⟩ L)) ∧ w.grownBy w' (some x) := by
  obtain ⟨i0, hi0, hz0, hz1, hz2⟩ := info_parts Try.infoL
  have h1 : decide (j < 1) = false := by simp; omega
  have h2 : decide (8 < j) = false := by simp; omega
  have h3 : decide (g < 1) = false := by simp; omega
  have h4 : decide (1099511627776 < g) = false := by simp; omega
  have HX := hide h
  have hlt := h.lt
  have HM0 := World.ownsRow_made (base := w.heap.size + 1) (e := 54) (size := 5) (w.alloc (.cells #[.int .i64 n, .int .i64 l] 36)) #[] 0 (by simp) (Nat.zero_le _) rfl
  rw [World.size_alloc] at HM0
  have HG0 : Hid (Gg w n l (.slice (some ⟨w.heap.size + 1, 0, none⟩) 0 0) [] ((w.alloc (.cells #[.int .i64 n, .int .i64 l] 36)).alloc (.cells #[] 54))) := ⟨(below_alloc w _).alloc (by simp) _, (Below.heap_alloc _ _ _ (by simp)).trans (heap_alloc_new w _), HM0⟩
  clear h hj1 hj2 hg1 hg2 HM0
  obtain ⟨X, hX⟩ : ∃ X : Lz, X = ⟨j, g, n, l, T⟩ := ⟨_, rfl⟩
  have HXX := hide hX
  go_enter Try.func22, Try.ntmps22
  rw [← hX]
  clear hX
  go_wp2_with fail
  go_loopw [9, 10, 11] (fun s1 s2 s wr => ∃ (i : Nat) (a : Option Addr) (c : Nat), i ≤ L.length ∧ s1 = .slice a (gout X (L.take i)).length c ∧ s2 = .bool (gin X (L.take i)) ∧ s = .int .i64 (i : Int) ∧ Hid (thr j g (L.take i) = false) ∧ Hid (Gg w n l (.slice a (gout X (L.take i)).length c) (gout X (L.take i)) wr)) (fun _ _ s _ => L.length - (intOf s).toNat)
  case atStart => exact ⟨0, some ⟨w.heap.size + 1, 0, none⟩, 0, Nat.zero_le _, rfl, rfl, rfl, rfl, HG0⟩
  case round =>
    clear HG0
    obtain ⟨i, a, c, hi, rfl, rfl, rfl, HTH, HG⟩ := hrel
    have d1 := (HX.out.below HG.out.low).c1
    have hsz := HG.out.size
    by_cases hii : i < L.length
    · have hik : (i : Int) < (L.length : Int) := by omega
      have hat := HX.out.rs.at_ (by omega)
      subst hat
      obtain ⟨q0, q1, q2, q3, q4⟩ := (HX.out.rs.below HG.out.low).eight0 hii
      have hgl : (gout X (L.take i)).length ≤ 13 := by have := gout_len X (L.take i); rw [List.length_take] at this; omega
      have HTS : Hid (thr j g (L.take (i + 1)) = ((L[i]).job == j || (L[i]).bdg == g)) := by show _ = _; rw [List.take_succ_eq_append_getElem hii, thr_snoc, HTH.out, Bool.false_or]
      have HTA : Hid (((L[i]).job == j || (L[i]).bdg == g) = true → thr j g L = true) := fun e => by unfold thr; rw [List.any_eq_true]; exact ⟨L[i], List.getElem_mem hii, e⟩
      have HSN := hide (List.take_succ_eq_append_getElem hii)
      have HEQ : Hid (∀ W, Rs W (some ⟨ab, 0, none⟩) ab 0 L → W.cell? ⟨ab, i * 5, none⟩ = some (.int .i64 (L[i]).job) ∧ W.cell? ⟨ab, i * 5 + 1, none⟩ = some (.int .i64 (L[i]).bdg) ∧ W.cell? ⟨ab, i * 5 + 2, none⟩ = some (.int .i64 (L[i]).node) ∧ W.cell? ⟨ab, i * 5 + 3, none⟩ = some (.int .i64 (L[i]).life) ∧ W.cell? ⟨ab, i * 5 + 4, none⟩ = some (.int .i64 (L[i]).left)) := fun W h => h.eight0 hii
      generalize L[i] = y at *
      by_cases hyj : y.job = j
      · have b1 : (y.job == j) = true := by simpa using hyj
        have HY : Hid (thr j g L = true) := HTA.out (by rw [b1]; rfl)
        clear hyj
        go_wp2_with fail
        go_ret
        try rw [if_pos HY.out, if_pos HY.out]
        exact ⟨rfl, ⟨_, ab, cap, HX.out.below HG.out.low⟩, grown_any HG.out.low _⟩
      · have b1 : (y.job == j) = false := by simpa using hyj
        by_cases hyg : y.bdg = g
        · have b2 : (y.bdg == g) = true := by simpa using hyg
          have HY : Hid (thr j g L = true) := HTA.out (by rw [b1, b2]; rfl)
          clear hyj hyg
          go_wp2_with fail
          go_ret
          try rw [if_pos HY.out, if_pos HY.out]
          exact ⟨rfl, ⟨_, ab, cap, HX.out.below HG.out.low⟩, grown_any HG.out.low _⟩
        · have b2 : (y.bdg == g) = false := by simpa using hyg
          have HT2 : Hid (thr j g (L.take (i + 1)) = false) := by show _ = _; rw [HTS.out, b1, b2]; rfl
          clear hyj HTS HTA
          cases hin : gin X (L.take i)
          · by_cases hgt : g < y.bdg
            · have hXb : X.bdg < y.bdg := by rw [HXX.out]; exact hgt
              obtain ⟨u1, u2, u3⟩ := gout_new hin hXb
              rw [← HSN.out] at u1 u3
              have HU1 := hide u1
              have HU3 := hide u3
              have b3 : decide (g < y.bdg) = true := by simpa using hgt
              rw [u2] at HG hgl ⊢
              clear hyg hgt hXb u1 u2 u3 hin
              obtain ⟨hc0, hc1⟩ := HG.out.c
              have hc2 := (HX.out.below HG.out.low).c0
              generalize L.take i = M at *
              have HGA := hide (HG.out.drew.alloc (.cells #[.int .i64 j, .int .i64 g, .int .i64 n, .int .i64 l, .int .i64 T] 54))
              have HSA : Hid ((wr.drew.alloc (.cells #[.int .i64 j, .int .i64 g, .int .i64 n, .int .i64 l, .int .i64 T] 54)).cell? ⟨w.heap.size, 0, none⟩ = some (.int .i64 n) ∧ (wr.drew.alloc (.cells #[.int .i64 j, .int .i64 g, .int .i64 n, .int .i64 l, .int .i64 T] 54)).cell? ⟨w.heap.size, 1, none⟩ = some (.int .i64 l) ∧ (wr.drew.alloc (.cells #[.int .i64 j, .int .i64 g, .int .i64 n, .int .i64 l, .int .i64 T] 54)).cell? ⟨x, 0, none⟩ = some (.int .i64 T)) := ⟨Lib.cell?_alloc_some _ hc0, Lib.cell?_alloc_some _ hc1, Lib.cell?_alloc_some _ hc2⟩
              go_wp2_with fail
              refine wp_region_held_drew (S := fun w' => w'.cell? ⟨w.heap.size, 0, none⟩ = some (.int .i64 n) ∧ w'.cell? ⟨w.heap.size, 1, none⟩ = some (.int .i64 l) ∧ w'.cell? ⟨x, 0, none⟩ = some (.int .i64 T)) (by kernel_rfl) (⟨hc0, hc1, hc2⟩) (fun hHeld => ?_)
              refine wpAnyH_take (i := 0) (v := (.slice a M.length c)) rfl (by kernel_rfl) (by kernel_rfl) (by kernel_rfl) (fun _ _ _ h => h) (Or.inl ⟨by rfl, fun w1 hSw => by obtain ⟨s0, s1, s2⟩ := hSw; clear hHeld hc0 hc1 hc2; go_simp⟩) hHeld ?_
              simp only [Act.put, List.setIfInBounds_toArray]
              refine wpAnyH_take (i := 1) (v := (.int .i64 j)) rfl (by kernel_rfl) (by kernel_rfl) (by kernel_rfl) (fun _ _ _ h => h) (Or.inl ⟨by rfl, fun w1 hSw => by obtain ⟨s0, s1, s2⟩ := hSw; clear hHeld hc0 hc1 hc2; go_simp⟩) hHeld ?_
              try simp only [Act.put]
              refine wpAnyH_take (i := 2) (v := (.int .i64 g)) rfl (by kernel_rfl) (by kernel_rfl) (by kernel_rfl) (fun _ _ _ h => h) (Or.inl ⟨by rfl, fun w1 hSw => by obtain ⟨s0, s1, s2⟩ := hSw; clear hHeld hc0 hc1 hc2; go_simp⟩) hHeld ?_
              try simp only [Act.put]
              refine wpAnyH_take (i := 3) (v := (.agg #[.int .i64 n, .int .i64 l])) rfl (by kernel_rfl) (by kernel_rfl) (by kernel_rfl) (fun _ _ _ h => h) (Or.inl ⟨by rfl, fun w1 hSw => by obtain ⟨s0, s1, s2⟩ := hSw; clear hHeld hc0 hc1 hc2; go_simp⟩) hHeld ?_
              try simp only [Act.put]
              refine wpAnyH_take (i := 4) (v := (.pointer (some ⟨x, 0, none⟩))) rfl (by kernel_rfl) (by kernel_rfl) (by kernel_rfl) (fun _ _ _ h => h) (Or.inl ⟨by rfl, fun w1 hSw => by obtain ⟨s0, s1, s2⟩ := hSw; clear hHeld hc0 hc1 hc2; go_simp⟩) hHeld ?_
              try simp only [Act.put]
              refine wpAnyH_take (i := 5) (v := (.pointer (some ⟨x, 0, none⟩))) rfl (by kernel_rfl) (by kernel_rfl) (by kernel_rfl) (fun _ _ _ h => h) (Or.inl ⟨by rfl, fun w1 hSw => by obtain ⟨s0, s1, s2⟩ := hSw; clear hHeld hc0 hc1 hc2; go_simp⟩) hHeld ?_
              try simp only [Act.put]
              refine wpAnyH_take (i := 6) (v := (.pointer (some ⟨x, 0, none⟩))) rfl (by kernel_rfl) (by kernel_rfl) (by kernel_rfl) (fun _ _ _ h => h) (Or.inl ⟨by rfl, fun w1 hSw => by obtain ⟨s0, s1, s2⟩ := hSw; clear hHeld hc0 hc1 hc2; go_simp⟩) hHeld ?_
              try simp only [Act.put]
              refine wpAnyH_take (i := 7) (v := (.int .i64 T)) rfl (by kernel_rfl) (by kernel_rfl) (by kernel_rfl) (fun _ _ _ h => h) (Or.inl ⟨by rfl, fun w1 hSw => by obtain ⟨s0, s1, s2⟩ := hSw; clear hHeld hc0 hc1 hc2; go_simp⟩) hHeld ?_
              try simp only [Act.put]
              refine wpAnyH_take (i := 8) (v := (.agg #[.int .i64 j, .int .i64 g, .int .i64 n, .int .i64 l, .int .i64 T])) rfl (by kernel_rfl) (by kernel_rfl) (by kernel_rfl) (fun _ _ _ h => h) (Or.inl ⟨by rfl, fun w1 hSw => by obtain ⟨s0, s1, s2⟩ := hSw; clear hHeld hc0 hc1 hc2; go_simp⟩) hHeld ?_
              try simp only [Act.put]
              refine wpAnyH_ready (rs := [9]) (by kernel_rfl) (by simp) ?_
              refine AllReadyH.cons rfl (fun K hK => ?_) AllReadyH.nil
              go_simp
              refine hK.out _ _ HSA.out (fun hHeld => ?_)
              clear hK K
              refine wpAnyH_ready (rs := [10]) (by kernel_rfl) (by simp) ?_
              refine AllReadyH.cons rfl (fun K hK => ?_) AllReadyH.nil
              rw [if_pos (by kernel_rfl)]
              refine wp_append_lies _ _ _ 42 rfl (w.heap.size + 1) 54 i0 lz0.val 5 40 Try.underlying42 hi0 hz0 hz1 hz2 rfl (by decide) (.slice a M.length c) M.length (lcs M) (by rfl) HGA.out.row ⟨wr.heap.size, 0, none⟩ 1 1 [.int .i64 j, .int .i64 g, .int .i64 n, .int .i64 l, .int .i64 T] (by rfl) rfl (World.news_of_block (heap_alloc_new wr.drew (.cells #[.int .i64 j, .int .i64 g, .int .i64 n, .int .i64 l, .int .i64 T] 54))) (lcs_one_cell [⟨j, g, n, l, T⟩]) (by decide) (by unfold maxLen; omega) (by omega) (by simp; omega) (wr.heap.size + 1) (by simp) ?_
              intro g5 cap5 w5 hown5 hgrow5 _ _
              have HG5 : Hid (Gg w n l (.slice (some ⟨g5, 0, none⟩) (M ++ [(⟨j, g, n, l, T⟩ : Lz)]).length cap5) (M ++ [⟨j, g, n, l, T⟩]) w5) := HGA.out.app hgrow5 (by rw [lcs_snoc, List.length_append]; exact hown5)
              refine hK.out _ _ (⟨HG5.out.c.1, HG5.out.c.2, (HX.out.below HG5.out.low).c0⟩) (fun hHeld => ?_)
              clear hK K hown5 hgrow5 HGA HSA hc0 hc1 hc2
              try simp only [List.getElem_toArray]
              try simp only [List.getElem_cons_succ]
              try simp only [List.getElem_cons_zero]
              go_frame
              refine wpAnyH_take (i := 11) (v := (.slice (some ⟨g5, 0, none⟩) (M.length + 1) cap5)) rfl (by kernel_rfl) (by kernel_rfl) (by kernel_rfl) (fun _ _ _ h => h) (Or.inl ⟨by kernel_rfl, fun w1 hSw => by clear hHeld hSw; go_simp⟩) hHeld ?_
              refine wpAnyH_done (by kernel_rfl) ?_ _
              clear hHeld
              try simp only [List.getElem_toArray]
              try simp only [List.getElem_cons_succ]
              try simp only [List.getElem_cons_zero]
              go_frame
              rw [List.length_append, List.length_singleton] at HG5
              have d5 := (HX.out.below HG5.out.low).c1
              obtain ⟨q0, q1, q2, q3, q4⟩ := HEQ.out w5 (HX.out.rs.below HG5.out.low)
              have hsz5 := HG5.out.size
              obtain ⟨N, hN⟩ : ∃ N, N = M ++ [(⟨j, g, n, l, T⟩ : Lz)] := ⟨_, rfl⟩
              have hNl : M.length + 1 = N.length := by rw [hN, List.length_append]; rfl
              rw [← hN, hNl] at HG5
              have HN := hide hN
              have hNb : N.length ≤ 14 := by omega
              rw [hNl]
              have HMA := hide (HG5.out.alloc y.obj)
              clear hN hNl HG
              go_wp2_with (at_builtin; refine wpList_append_lies _ rfl _ _ 42 rfl (w.heap.size + 1) 54 i0 lz0.val 5 40 Try.underlying42 hi0 hz0 hz1 hz2 rfl (by decide) (.slice (some ⟨g5, 0, none⟩) N.length cap5) N.length (lcs N) rfl HMA.out.row ⟨w5.heap.size, 0, none⟩ 1 1 y.cs rfl rfl (World.news_of_block (heap_alloc_new w5 y.obj)) (lcs_one_cell [y]) (by decide) (by unfold maxLen; omega) (by omega) (by simp; omega) (w5.heap.size + 1) (by simp) ?_; intro g6 cap6 w6 hown6 hgrow6 _ _; (have HG6 : Hid (Gg w n l (.slice (some ⟨g6, 0, none⟩) (N ++ [y]).length cap6) (N ++ [y]) w6) := HMA.out.app hgrow6 (by rw [lcs_snoc, List.length_append]; exact hown6)); clear hown6 hgrow6)
              rw [HN.out, List.append_assoc] at HG6
              go_roundw
              case rel =>
                refine ⟨i + 1, some ⟨g6, 0, none⟩, cap6, by omega, ?_, by rw [HU1.out], by go_num, HT2, ?_⟩
                · rw [HU3.out, HN.out, HXX.out]; simp
                · rw [HU3.out, HXX.out, List.append_assoc]; exact HG6
              case measure => simp only [intOf]; omega
            · have hXb : ¬ X.bdg < y.bdg := by rw [HXX.out]; exact hgt
              obtain ⟨u1, u3⟩ := gout_old hin hXb
              rw [← HSN.out] at u1 u3
              have HU1 := hide u1
              have HU3 := hide u3
              have b3 : decide (g < y.bdg) = false := by simpa using hgt
              have HMA := hide (HG.out.alloc y.obj)
              clear hyg hgt hXb u1 u3 hin
              generalize gout X (L.take i) = M at *
              go_wp2_with (at_builtin; refine wpList_append_lies _ rfl _ _ 42 rfl (w.heap.size + 1) 54 i0 lz0.val 5 40 Try.underlying42 hi0 hz0 hz1 hz2 rfl (by decide) (.slice a M.length c) M.length (lcs M) rfl HMA.out.row ⟨wr.heap.size, 0, none⟩ 1 1 y.cs rfl rfl (World.news_of_block (heap_alloc_new wr y.obj)) (lcs_one_cell [y]) (by decide) (by unfold maxLen; omega) (by omega) (by simp; omega) (wr.heap.size + 1) (by simp) ?_; intro g6 cap6 w6 hown6 hgrow6 _ _; (have HG6 : Hid (Gg w n l (.slice (some ⟨g6, 0, none⟩) (M ++ [y]).length cap6) (M ++ [y]) w6) := HMA.out.app hgrow6 (by rw [lcs_snoc, List.length_append]; exact hown6)); clear hown6 hgrow6)
              go_roundw
              case rel => exact ⟨i + 1, some ⟨g6, 0, none⟩, cap6, by omega, by rw [HU3.out, List.length_append]; rfl, by rw [HU1.out], by go_num, HT2, by rw [HU3.out]; exact HG6⟩
              case measure => simp only [intOf]; omega
          · obtain ⟨u1, u3⟩ := gout_in (y := y) hin
            rw [← HSN.out] at u1 u3
            have HU1 := hide u1
            have HU3 := hide u3
            have HMA := hide (HG.out.alloc y.obj)
            clear hyg u1 u3 hin
            generalize gout X (L.take i) = M at *
            obtain ⟨bb, hbb⟩ : ∃ bb, decide (g < y.bdg) = bb := ⟨_, rfl⟩
            cases bb
            · go_wp2_with (at_builtin; refine wpList_append_lies _ rfl _ _ 42 rfl (w.heap.size + 1) 54 i0 lz0.val 5 40 Try.underlying42 hi0 hz0 hz1 hz2 rfl (by decide) (.slice a M.length c) M.length (lcs M) rfl HMA.out.row ⟨wr.heap.size, 0, none⟩ 1 1 y.cs rfl rfl (World.news_of_block (heap_alloc_new wr y.obj)) (lcs_one_cell [y]) (by decide) (by unfold maxLen; omega) (by omega) (by simp; omega) (wr.heap.size + 1) (by simp) ?_; intro g6 cap6 w6 hown6 hgrow6 _ _; (have HG6 : Hid (Gg w n l (.slice (some ⟨g6, 0, none⟩) (M ++ [y]).length cap6) (M ++ [y]) w6) := HMA.out.app hgrow6 (by rw [lcs_snoc, List.length_append]; exact hown6)); clear hown6 hgrow6)
              go_roundw
              case rel => exact ⟨i + 1, some ⟨g6, 0, none⟩, cap6, by omega, by rw [HU3.out, List.length_append]; rfl, by rw [HU1.out], by go_num, HT2, by rw [HU3.out]; exact HG6⟩
              case measure => simp only [intOf]; omega
            · go_wp2_with (at_builtin; refine wpList_append_lies _ rfl _ _ 42 rfl (w.heap.size + 1) 54 i0 lz0.val 5 40 Try.underlying42 hi0 hz0 hz1 hz2 rfl (by decide) (.slice a M.length c) M.length (lcs M) rfl HMA.out.row ⟨wr.heap.size, 0, none⟩ 1 1 y.cs rfl rfl (World.news_of_block (heap_alloc_new wr y.obj)) (lcs_one_cell [y]) (by decide) (by unfold maxLen; omega) (by omega) (by simp; omega) (wr.heap.size + 1) (by simp) ?_; intro g6 cap6 w6 hown6 hgrow6 _ _; (have HG6 : Hid (Gg w n l (.slice (some ⟨g6, 0, none⟩) (M ++ [y]).length cap6) (M ++ [y]) w6) := HMA.out.app hgrow6 (by rw [lcs_snoc, List.length_append]; exact hown6)); clear hown6 hgrow6)
              go_roundw
              case rel => exact ⟨i + 1, some ⟨g6, 0, none⟩, cap6, by omega, by rw [HU3.out, List.length_append]; rfl, by rw [HU1.out], by go_num, HT2, by rw [HU3.out]; exact HG6⟩
              case measure => simp only [intOf]; omega
    · have hik : ¬ (i : Int) < (L.length : Int) := by omega
      have hti : L.take i = L := List.take_of_length_le (by omega)
      rw [hti] at HTH HG ⊢
      have hth := HTH.out
      have hgl : (gout X L).length ≤ 13 := by have := gout_len X L; omega
      have hfz : ∀ W, Below w.heap.size w W → W.frozen? ⟨x, 1, none⟩ = false := fun W hb => by have := (HX.out.below hb).blk; simp [World.frozen?, this]
      have HFZ := hide hfz
      clear hfz hti HTH
      cases hin : gin X L
      · have HI := hide (ins_end hin)
        have hgo : gout X L = L := if_neg (by rw [hin]; decide)
        rw [hgo] at HG hgl ⊢
        clear hgo hin
        obtain ⟨hc0, hc1⟩ := HG.out.c
        have hc2 := (HX.out.below HG.out.low).c0
        obtain ⟨M, hM⟩ : ∃ M, M = L := ⟨_, rfl⟩
        rw [← hM] at HG hgl ⊢
        have HM := hide hM
        clear hM
        have HGA := hide (HG.out.drew.alloc (.cells #[.int .i64 j, .int .i64 g, .int .i64 n, .int .i64 l, .int .i64 T] 54))
        have HSA : Hid ((wr.drew.alloc (.cells #[.int .i64 j, .int .i64 g, .int .i64 n, .int .i64 l, .int .i64 T] 54)).cell? ⟨w.heap.size, 0, none⟩ = some (.int .i64 n) ∧ (wr.drew.alloc (.cells #[.int .i64 j, .int .i64 g, .int .i64 n, .int .i64 l, .int .i64 T] 54)).cell? ⟨w.heap.size, 1, none⟩ = some (.int .i64 l) ∧ (wr.drew.alloc (.cells #[.int .i64 j, .int .i64 g, .int .i64 n, .int .i64 l, .int .i64 T] 54)).cell? ⟨x, 0, none⟩ = some (.int .i64 T)) := ⟨Lib.cell?_alloc_some _ hc0, Lib.cell?_alloc_some _ hc1, Lib.cell?_alloc_some _ hc2⟩
        go_wp2_with fail
        refine wp_region_held_drew (S := fun w' => w'.cell? ⟨w.heap.size, 0, none⟩ = some (.int .i64 n) ∧ w'.cell? ⟨w.heap.size, 1, none⟩ = some (.int .i64 l) ∧ w'.cell? ⟨x, 0, none⟩ = some (.int .i64 T)) (by kernel_rfl) (⟨hc0, hc1, hc2⟩) (fun hHeld => ?_)
        refine wpAnyH_take (i := 0) (v := (.slice a M.length c)) rfl (by kernel_rfl) (by kernel_rfl) (by kernel_rfl) (fun _ _ _ h => h) (Or.inl ⟨by rfl, fun w1 hSw => by obtain ⟨s0, s1, s2⟩ := hSw; clear hHeld hc0 hc1 hc2; go_simp⟩) hHeld ?_
        simp only [Act.put, List.setIfInBounds_toArray]
        refine wpAnyH_take (i := 1) (v := (.int .i64 j)) rfl (by kernel_rfl) (by kernel_rfl) (by kernel_rfl) (fun _ _ _ h => h) (Or.inl ⟨by rfl, fun w1 hSw => by obtain ⟨s0, s1, s2⟩ := hSw; clear hHeld hc0 hc1 hc2; go_simp⟩) hHeld ?_
        try simp only [Act.put]
        refine wpAnyH_take (i := 2) (v := (.int .i64 g)) rfl (by kernel_rfl) (by kernel_rfl) (by kernel_rfl) (fun _ _ _ h => h) (Or.inl ⟨by rfl, fun w1 hSw => by obtain ⟨s0, s1, s2⟩ := hSw; clear hHeld hc0 hc1 hc2; go_simp⟩) hHeld ?_
        try simp only [Act.put]
        refine wpAnyH_take (i := 3) (v := (.agg #[.int .i64 n, .int .i64 l])) rfl (by kernel_rfl) (by kernel_rfl) (by kernel_rfl) (fun _ _ _ h => h) (Or.inl ⟨by rfl, fun w1 hSw => by obtain ⟨s0, s1, s2⟩ := hSw; clear hHeld hc0 hc1 hc2; go_simp⟩) hHeld ?_
        try simp only [Act.put]
        refine wpAnyH_take (i := 4) (v := (.pointer (some ⟨x, 0, none⟩))) rfl (by kernel_rfl) (by kernel_rfl) (by kernel_rfl) (fun _ _ _ h => h) (Or.inl ⟨by rfl, fun w1 hSw => by obtain ⟨s0, s1, s2⟩ := hSw; clear hHeld hc0 hc1 hc2; go_simp⟩) hHeld ?_
        try simp only [Act.put]
        refine wpAnyH_take (i := 5) (v := (.pointer (some ⟨x, 0, none⟩))) rfl (by kernel_rfl) (by kernel_rfl) (by kernel_rfl) (fun _ _ _ h => h) (Or.inl ⟨by rfl, fun w1 hSw => by obtain ⟨s0, s1, s2⟩ := hSw; clear hHeld hc0 hc1 hc2; go_simp⟩) hHeld ?_
        try simp only [Act.put]
        refine wpAnyH_take (i := 6) (v := (.pointer (some ⟨x, 0, none⟩))) rfl (by kernel_rfl) (by kernel_rfl) (by kernel_rfl) (fun _ _ _ h => h) (Or.inl ⟨by rfl, fun w1 hSw => by obtain ⟨s0, s1, s2⟩ := hSw; clear hHeld hc0 hc1 hc2; go_simp⟩) hHeld ?_
        try simp only [Act.put]
        refine wpAnyH_take (i := 7) (v := (.int .i64 T)) rfl (by kernel_rfl) (by kernel_rfl) (by kernel_rfl) (fun _ _ _ h => h) (Or.inl ⟨by rfl, fun w1 hSw => by obtain ⟨s0, s1, s2⟩ := hSw; clear hHeld hc0 hc1 hc2; go_simp⟩) hHeld ?_
        try simp only [Act.put]
        refine wpAnyH_take (i := 8) (v := (.agg #[.int .i64 j, .int .i64 g, .int .i64 n, .int .i64 l, .int .i64 T])) rfl (by kernel_rfl) (by kernel_rfl) (by kernel_rfl) (fun _ _ _ h => h) (Or.inl ⟨by rfl, fun w1 hSw => by obtain ⟨s0, s1, s2⟩ := hSw; clear hHeld hc0 hc1 hc2; go_simp⟩) hHeld ?_
        try simp only [Act.put]
        refine wpAnyH_ready (rs := [9]) (by kernel_rfl) (by simp) ?_
        refine AllReadyH.cons rfl (fun K hK => ?_) AllReadyH.nil
        go_simp
        refine hK.out _ _ HSA.out (fun hHeld => ?_)
        clear hK K
        refine wpAnyH_ready (rs := [10]) (by kernel_rfl) (by simp) ?_
        refine AllReadyH.cons rfl (fun K hK => ?_) AllReadyH.nil
        rw [if_pos (by kernel_rfl)]
        refine wp_append_lies _ _ _ 42 rfl (w.heap.size + 1) 54 i0 lz0.val 5 40 Try.underlying42 hi0 hz0 hz1 hz2 rfl (by decide) (.slice a M.length c) M.length (lcs M) (by rfl) HGA.out.row ⟨wr.heap.size, 0, none⟩ 1 1 [.int .i64 j, .int .i64 g, .int .i64 n, .int .i64 l, .int .i64 T] (by rfl) rfl (World.news_of_block (heap_alloc_new wr.drew (.cells #[.int .i64 j, .int .i64 g, .int .i64 n, .int .i64 l, .int .i64 T] 54))) (lcs_one_cell [⟨j, g, n, l, T⟩]) (by decide) (by unfold maxLen; omega) (by omega) (by simp; omega) (wr.heap.size + 1) (by simp) ?_
        intro g5 cap5 w5 hown5 hgrow5 _ _
        have HG5 : Hid (Gg w n l (.slice (some ⟨g5, 0, none⟩) (M ++ [(⟨j, g, n, l, T⟩ : Lz)]).length cap5) (M ++ [⟨j, g, n, l, T⟩]) w5) := HGA.out.app hgrow5 (by rw [lcs_snoc, List.length_append]; exact hown5)
        refine hK.out _ _ (⟨HG5.out.c.1, HG5.out.c.2, (HX.out.below HG5.out.low).c0⟩) (fun hHeld => ?_)
        clear hK K hown5 hgrow5 HGA HSA hc0 hc1 hc2
        try simp only [List.getElem_toArray]
        try simp only [List.getElem_cons_succ]
        try simp only [List.getElem_cons_zero]
        go_frame
        refine wpAnyH_take (i := 11) (v := (.slice (some ⟨g5, 0, none⟩) (M.length + 1) cap5)) rfl (by kernel_rfl) (by kernel_rfl) (by kernel_rfl) (fun _ _ _ h => h) (Or.inl ⟨by kernel_rfl, fun w1 hSw => by clear hHeld hSw; go_simp⟩) hHeld ?_
        refine wpAnyH_done (by kernel_rfl) ?_ _
        clear hHeld
        try simp only [List.getElem_toArray]
        try simp only [List.getElem_cons_succ]
        try simp only [List.getElem_cons_zero]
        go_frame
        rw [List.length_append, List.length_singleton] at HG5
        have d5 := (HX.out.below HG5.out.low).c1
        have f5 := HFZ.out w5 HG5.out.low
        have hrow := HG5.out.row
        have hlb := HG5.out.low
        rw [← List.length_singleton (a := (⟨j, g, n, l, T⟩ : Lz)), ← List.length_append] at hrow
        obtain ⟨ab', hR, hRa, hRc⟩ := Rs.own hrow
        have HS := hide (HX.out.set (cap' := cap5) hlb hR hRa hRc)
        rw [List.length_append, List.length_singleton] at HS
        clear hrow hlb hR hRa hRc HG HFZ
        go_wp2_with fail
        all_goals
          go_ret
          try rw [hth]
          refine ⟨rfl, ⟨some ⟨g5, 0, none⟩, ab', cap5, ?_⟩, HS.out.2⟩
          rw [HI.out, HXX.out, ← HM.out]
          exact HS.out.1
      · have hgo : gout X L = ins X L := if_pos hin
        rw [hgo] at HG hgl ⊢
        have d5 := (HX.out.below HG.out.low).c1
        have f5 := HFZ.out wr HG.out.low
        obtain ⟨ab', hR, hRa, hRc⟩ := Rs.own HG.out.row
        have HS := hide (HX.out.set (cap' := c) HG.out.low hR hRa hRc)
        clear hgo hin hR hRa hRc HFZ
        go_wp2_with fail
        all_goals
          go_ret
          try rw [hth]
          exact ⟨rfl, ⟨_, ab', c, HS.out.1⟩, HS.out.2⟩
end Go.Proofs.Ytjpcghkdedldiaa
