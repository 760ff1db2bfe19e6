import Derived.Test.YtapcmmljdpallaaSkE
namespace Go.Proofs.Ytapcmmljdpallaa.K
open Go.RowKit Go.MapKept
set_option maxRecDepth 8000

theorem one_at {w : World} {k : Nat} (hk : k = w.heap.size) (u : Value) (t : TypeId) : ∀ j x, [u][j]? = some x → (w.alloc (.cells #[u] t)).cell? ((⟨k, 0, none⟩ : Addr).add j) = some x := by
  subst hk
  exact one_new w u t
theorem four_of {w : World} {B : Nat} {a b c : Value} {t : TypeId} (h : w.heap[B]? = some (.cells #[a, b, c] t (0, 0))) : w.cell? ⟨B, 0, none⟩ = some a ∧ w.cell? ⟨B, 1, none⟩ = some b ∧ w.cell? ⟨B, 2, none⟩ = some c ∧ ∀ k, w.frozen? ⟨B, k, none⟩ = false := by
  simp [World.cell?, World.frozen?, h]
set_option maxHeartbeats 4000000 in
theorem admit_more {w : World} {b m : Nat} {A : List Az} {tv : Value} {T : List Ev} (h : Sb w b m A tv T 0) {job bdg idx : Int} (hb : 1 ≤ bdg ∧ bdg ≤ 1099511627776) (hh : has job A = true) (hl : (fnd job A).pcs.length < 16) (hi : 0 < idx) (hT : T.length ≤ 1000000000) (t : ByteArray) :
    Calls Try.prog 18 #[.pointer (some ⟨b, 0, none⟩), .int .i64 job, .int .i64 bdg, .int .i64 idx, .string t] w fun e w' => e = .returned (.tuple #[]) ∧ AdP b m A tv T job bdg idx t ((fnd job A).pcs ++ [t]) w w' := by
  obtain ⟨iE, hiE, zE0, zE1, zE2⟩ := info_parts Try.infoE
  obtain ⟨iS, hiS, zS0, zS1, zS2⟩ := info_parts Try.infoS
  have HB := hide hb
  have HX : Hid (fnd job A ∈ A ∧ (fnd job A).job = job) := hide (fnd_mem hh)
  have hjob := h.ok _ HX.out.1
  rw [HX.out.2] at hjob
  have HJ : Hid (1 ≤ job ∧ job ≤ 8) := hide ⟨hjob.1, hjob.2.1⟩
  have h0 : (fnd job A).job ≠ 0 := by rw [HX.out.2]; omega
  have hown := h.pcs _ HX.out.1 h0
  have HAP : Hid (∀ y ∈ A, y.job ≠ job → ∀ k, (fnd job A).sl.ownBlock = some k → y.sl.ownBlock ≠ some k) := hide fun y hy hne k e => h.apart _ HX.out.1 y hy h0 (by have := (h.ok y hy).1; omega) (by rw [HX.out.2]; exact Ne.symm hne) k e
  have hlk := fun o => (h.map.below (below_alloc w o)).look1 job
  have hf2 := field2
  have hi' : decide (idx > 0) = true := by simpa using hi
  have hd1 : decide (0 < idx) = true := by simpa using hi
  generalize hx : fnd job A = x at *
  obtain ⟨xj, xb, ad0, cap0, pcs⟩ := x
  simp only at h0 hown hl
  have HX0 : Hid (xj ≠ 0) := hide h0
  dsimp only [Az.val] at hlk
  clear hx hjob h0 hh
  have b2 := (below_alloc w (.cells #[.int .i64 job, .int .i64 bdg, .slice none 0 0] 49)).alloc (Nat.le_of_lt (by simp)) (.cells #[.string t] 9)
  have c0 := (h.below (below_alloc w (.cells #[.int .i64 job, .int .i64 bdg, .slice none 0 0] 49))).c0
  have HS2 := hide ((h.hole job).below b2)
  have HO2 : Hid (((w.alloc (.cells #[.int .i64 job, .int .i64 bdg, .slice none 0 0] 49)).alloc (.cells #[.string t] 9)).ownsRow 0 9 1 (.slice ad0 pcs.length cap0) pcs.length (tcs pcs)) := hide (own_keep hown fun k e => b2.block k (hown.lt k e).2)
  have HLT : Hid (∀ k, Ft b m A tv job k → k < w.heap.size) := hide (h.hole job).lt
  have HOL : Hid (∀ k, (Value.slice ad0 pcs.length cap0).ownBlock = some k → k < w.heap.size ∧ k ≠ b ∧ k ≠ m ∧ tv.ownBlock ≠ some k) := hide fun k e => ⟨(hown.lt k e).2, (h.row_ne hown (by decide) k e).1, (h.row_ne hown (by decide) k e).2, own_apart hown h.told (by decide) k e⟩
  have HH0 := hide h
  obtain ⟨ad, cap, hv⟩ := own_slice h.told
  subst hv
  have HBL := hide b2
  have HA2 : Hid (((w.alloc (.cells #[.int .i64 job, .int .i64 bdg, .slice none 0 0] 49)).alloc (.cells #[.string t] 9)).heap[w.heap.size]? = some (.cells #[.int .i64 job, .int .i64 bdg, .slice none 0 0] 49 (0, 0))) := hide (((below_alloc _ _).block _ (by simp)).trans (heap_alloc_new w _))
  have HSZ : Hid (((w.alloc (.cells #[.int .i64 job, .int .i64 bdg, .slice none 0 0] 49)).alloc (.cells #[.string t] 9)).heap.size = w.heap.size + 2) := hide (by simp)
  clear h hb hown b2
  go_enter Try.func18, Try.ntmps18
  go_wp2_with (at_builtin; refine wpList_append_two rfl _ _ 26 rfl 0 9 iS (.string ByteArray.empty) 1 16 Try.underlying26 hiS zS0 zS1 zS2 rfl (by decide) (.slice ad0 pcs.length cap0) pcs.length (tcs pcs) rfl HO2.out ⟨w.heap.size + 1, 0, none⟩ 1 1 [.string t] (by decide) rfl rfl (one_at (by simp) _ _) (by intro u hu; simp at hu; subst hu; rfl) (by unfold maxLen; omega) (by omega) (by omega) ?_; intro v' w3 hown hgrow htwo; have HO3 := hide hown; have HG3 := hide hgrow; have H23 := hide htwo; (obtain ⟨ad3, cap3, hv3⟩ := own_slice hown); subst hv3; (have HA3 : Hid (w3.heap[w.heap.size]? = some (.cells #[.int .i64 job, .int .i64 bdg, .slice none 0 0] 49 (0, 0))) := hide ((hgrow.block _ (by simp; omega) (fun e => by have := (HOL.out _ e.symm).1; omega)).trans HA2.out)); (obtain ⟨a0, a1, a2, az⟩ := four_of HA3.out); (have az2 := az 2); clear hown hgrow htwo az hlk hf2)
  have HS3 : Hid (Sb w3 b m A (.slice ad T.length cap) T job) := hide (HS2.out.keep fun k hk => HG3.out.block k (by have := HLT.out k hk; have := HSZ.out; omega) (fun e => by
    obtain ⟨_, e1, e2, e3⟩ := HOL.out k e.symm
    rcases hk with rfl | rfl | e4 | ⟨y, hy, hy0, e4⟩
    · exact e1 rfl
    · exact e2 rfl
    · exact e3 e4
    · exact HAP.out y hy hy0 k e.symm e4))
  have HM3 : Hid (Mv (Ft b m A (.slice ad T.length cap) 0) w w3) := hide ((Mv.of_below HBL.out).grown HG3.out (fun k e => .inl (.inr (.inr (.inr ⟨_, HX.out.1, HX0.out, e⟩)))))
  have hs3 : w.heap.size < w3.heap.size := lt_blk HA3.out
  have hset : ∀ k, k ≠ w.heap.size → (w3.setCell ⟨w.heap.size, 2, none⟩ (.slice ad3 (pcs.length + 1) cap3)).heap[k]? = w3.heap[k]? := fun k hk => by simp [World.setCell, Array.getElem?_modify, Ne.symm hk]
  have HA4 : Hid ((w3.setCell ⟨w.heap.size, 2, none⟩ (.slice ad3 (pcs.length + 1) cap3)).heap[w.heap.size]? = some (.cells #[.int .i64 job, .int .i64 bdg, .slice ad3 (pcs.length + 1) cap3] 49 (0, 0))) := hide (by
    have := HA3.out
    simp only [World.setCell, Array.getElem?_modify]
    rw [this]
    simp)
  have HS4 : Hid (Sb (w3.setCell ⟨w.heap.size, 2, none⟩ (.slice ad3 (pcs.length + 1) cap3)) b m A (.slice ad T.length cap) T job) := hide (HS3.out.keep fun k hk => hset k (by have := HLT.out k hk; omega))
  have HO4 : Hid ((w3.setCell ⟨w.heap.size, 2, none⟩ (.slice ad3 (pcs.length + 1) cap3)).ownsRow 0 9 1 (.slice ad3 (pcs.length + 1) cap3) (pcs.length + 1) (tcs (pcs ++ [t]))) := hide (by
    rw [tcs_snoc]
    refine own_keep HO3.out fun k e => hset k fun e1 => ?_
    obtain ⟨cs, h1⟩ := own_type HO3.out k e
    rw [e1, HA3.out] at h1
    injection h1 with h1
    injection h1 with _ h1
    exact absurd h1 (by decide))
  have HM4 : Hid (Mv (Ft b m A (.slice ad T.length cap) 0) w (w3.setCell ⟨w.heap.size, 2, none⟩ (.slice ad3 (pcs.length + 1) cap3))) := hide (HM3.out.grown (grown_set w3 w.heap.size 2 _) (fun k e => by cases e; exact .inr (Nat.le_refl _)))
  clear hset a0 a1 a2 az2
  generalize w3.setCell ⟨w.heap.size, 2, none⟩ (.slice ad3 (pcs.length + 1) cap3) = w5 at *
  obtain ⟨w6, hst, hL6, hg6⟩ := HS4.out.map.drew.store ⟨job, bdg, ad3, cap3, pcs ++ [t]⟩
  have HS6 : Hid (Sb w6 b m (put ⟨job, bdg, ad3, cap3, pcs ++ [t]⟩ A) (.slice ad T.length cap) T 0) := hide (HS4.out.store (x := ⟨job, bdg, ad3, cap3, pcs ++ [t]⟩) rfl ⟨HJ.out.1, HJ.out.2, HB.out.1, HB.out.2, by simp; omega⟩ (by
      dsimp only [Az.sl]
      rw [List.length_append]
      exact HO4.out) (fun y hy hne k e => by
      dsimp only [Az.sl] at e
      have e' : (Value.slice ad3 (pcs.length + 1) cap3).ownBlock = some k := by rw [← e]; simp [Value.ownBlock]
      rcases H23.out with e2 | ⟨e2, _⟩
      · exact HAP.out y hy hne k (e2.symm.trans e')
      · intro e3
        have h1 := HLT.out k (.inr (.inr (.inr ⟨y, hy, hne, e3⟩)))
        rw [e'] at e2
        injection e2 with e2
        have := HSZ.out
        omega) hL6 ⟨hg6.os, hg6.tape, hg6.output, hg6.size, hg6.block⟩)
  have HM6 : Hid (Mv (Ft b m A (.slice ad T.length cap) 0) w w6) := hide (HM4.out.grown (w' := w6) ⟨hg6.os, hg6.tape, hg6.output, hg6.size, hg6.block⟩ (fun k e => by cases e; exact .inl (.inr (.inl rfl))))
  have c5 := HS4.out.c0
  have c1 := HS6.out.c1
  obtain ⟨a0, a1, a2, az⟩ := four_of HA4.out
  have HS7 := hide (HS6.out.below (below_alloc w6 (.cells (Ev.cs ⟨job, bdg, idx, t⟩).toArray 45)))
  have HZ : Hid (∀ w8, (w6.alloc (.cells (Ev.cs ⟨job, bdg, idx, t⟩).toArray 45)).grownBy w8 (Value.slice ad T.length cap).ownBlock → w8.frozen? ⟨b, 1, none⟩ = false ∧ w8.cell? ⟨b, 1, none⟩ = some (Value.slice ad T.length cap)) := hide fun w4 hg => HS7.out.z4 hg 1
  have HT7 := hide HS7.out.told
  dsimp only [Az.val] at hst
  rw [List.length_append, List.length_singleton] at hst
  clear c0 hL6 hg6 az
  go_region
  go_wp2_with (at_builtin; refine wpList_append_two rfl _ _ 39 rfl 0 45 iE ev0 13 128 Try.underlying39 hiE zE0 zE1 zE2 rfl (by decide) (.slice ad T.length cap) T.length (ecs T) rfl HT7.out ⟨w6.heap.size, 0, none⟩ 1 1 (Ev.cs ⟨job, bdg, idx, t⟩) (by decide) rfl rfl (World.news_of_block (heap_alloc_new w6 _)) (Ev.one _) (by unfold maxLen; omega) (by omega) (by omega) ?_; intro v' w8 hown hgrow htwo; have HO8 := hide hown; have HG8 := hide hgrow; have H28 := hide htwo; (obtain ⟨z8, c8⟩ := HZ.out _ hgrow); (obtain ⟨ad8, cap8, hv8⟩ := own_slice hown); subst hv8; clear hown hgrow htwo)
  go_end0
  refine ⟨rfl, ⟨job, bdg, ad3, cap3, pcs ++ [t]⟩, _, rfl, rfl, rfl, HS7.out.tell HG8.out (T' := T ++ [⟨job, bdg, idx, t⟩]) (by rw [ecs_snoc, List.length_append]; exact HO8.out), ?_, ?_⟩
  · refine ((HM6.out.below (below_alloc w6 _)).grown HG8.out (fun k e => .inl (.inr (.inr (.inl e))))).grown (grown_set w8 b 1 _) (fun k e => .inl ?_)
    cases e
    exact .inl rfl
  · have hsz : w.heap.size ≤ w6.heap.size := HM6.out.size
    intro k hk
    rcases hk with e | e | e | ⟨x, hx, hx0, e⟩
    · exact .inl (.inl e)
    · exact .inl (.inr (.inl e))
    · rcases H28.out with e2 | ⟨e2, _⟩
      · exact .inl (.inr (.inr (.inl (e2.symm.trans e))))
      · rw [e] at e2
        injection e2 with e2
        rw [World.size_alloc] at e2
        exact .inr (by omega)
    · rcases mem_put.1 hx with rfl | ⟨hx1, _⟩
      · have e' : (Value.slice ad3 (pcs.length + 1) cap3).ownBlock = some k := by rw [← e]; simp [Az.sl, Value.ownBlock]
        rcases H23.out with e2 | ⟨e2, _⟩
        · exact .inl (.inr (.inr (.inr ⟨_, HX.out.1, HX0.out, e2.symm.trans e'⟩)))
        · rw [e'] at e2
          injection e2 with e2
          have := HSZ.out
          exact .inr (by omega)
      · exact .inl (.inr (.inr (.inr ⟨x, hx1, hx0, e⟩)))
end Go.Proofs.Ytapcmmljdpallaa.K
