import Derived.Test.YtfmanndadjdpbaaMgAV

section
namespace Go.Proofs.Ytfmanndadjdpbaa.K
open Go.RowKit Go.MapKept Go.Shelf
set_option maxRecDepth 20000

set_option maxHeartbeats 20000000 in
theorem sinkJobs_walk {w : World} {ad : Option Addr} {cap ab ao : Nat} {L : List Oc} (hO : Or w ad ab ao L) (hl : L.length ≤ 1599289640356) :
    Calls Try.prog 4 #[.slice ad L.length cap] w fun e w' => e = .returned (.bool true) ∧ Below w.heap.size w w' := by
  have HO := hide hO
  clear hO
  go_enter Try.func4, Try.ntmps4
  go_wp2_with fail
  refine (new_st w).mono ?_
  rintro e w0 ⟨b, F0, rfl, hS0, hB0, hL0⟩
  have HS0 := hide hS0
  have HB0 := hide hB0
  have HL0 := hide hL0
  clear hS0 hB0 hL0
  go_wp2_with fail
  refine (new_st w0).mono ?_
  rintro e w1 ⟨c, G0, rfl, hS1, hB1, hL1⟩
  have hd : Dj w b c st0 st0 [] [] F0 G0 w1 := by
    have hsz := HB0.out.size
    exact ⟨HS0.out.below hB1, hS1, fun k hf hg => by have := hL1 k hg; have := HS0.out.lt k hf; omega, HL0.out, fun k hg => by have := hL1 k hg; omega, HB0.out.trans (hB1.mono hsz)⟩
  have HD1 := hide hd
  clear hS1 hB1 hL1 HS0 HB0 HL0 hd
  have hptr : ∀ (g : Nat) (w1 : World), (binOp .eql 24 (.pointer (some ⟨g, 0, none⟩)) (.pointer none)).run Try.prog w1 = .ok (.bool false) w1 := fun _ _ => by kernel_rfl
  go_wp2_with fail
  refine (awake_any w1).mono ?_
  rintro e w2 ⟨rfl, hb2⟩
  have HD2 := hide (HD1.out.below hb2)
  clear hb2 HD1
  go_wp2_with fail
  clear hptr
  go_loopw [5] (fun t5 wr => ∃ (i : Nat) (T : List Ev) (F : Nat → Prop), t5 = .int .i64 (i : Int) ∧ i ≤ L.length ∧ Hid (Dj w b c (run st0 (L.take i)) st0 T [] F G0 wr ∧ T.length = tot st0 (L.take i))) (fun t5 _ => L.length - (intOf t5).toNat)
  case atStart => exact ⟨0, [], F0, rfl, Nat.zero_le _, ⟨HD2.out, rfl⟩⟩
  case round =>
    clear HD2
    obtain ⟨i, T, F, rfl, hi, HR⟩ := hrel
    by_cases hil : i < L.length
    · as_aux_lemma =>
        have hab : ab < w.heap.size := HO.out.lt (by omega)
        have HO2 := hide (HO.out.keep (w' := wr) fun _ => HR.out.1.low.block ab hab)
        have had := HO.out.at_ (by omega)
        subst had
        have HS0 := hide (four_at (HO2.out.keep (w' := wr.drew) fun _ => rfl) hil)
        have hT : T.length ≤ 1600000000000 := by have h1 := HR.out.2; have h2 := tot_le (L.take i) st0; have h3 := List.length_take_le i L; omega
        have htk : L.take (i + 1) = L.take i ++ [L[i]] := by rw [List.take_succ_eq_append_getElem hil]
        have HN : Hid (run st0 (L.take (i + 1)) = nxt (run st0 (L.take i)) (L[i]).job (L[i]).bdg (L[i]).idx (L[i]).tx ∧ tot st0 (L.take (i + 1)) = tot st0 (L.take i) + (news (run st0 (L.take i)) (L[i]).job (L[i]).bdg (L[i]).idx (L[i]).tx).length) := hide ⟨by rw [htk, run_append]; rfl, by rw [htk, tot_append]; rfl⟩
        have HC := hide (HR.out.1.drew.one.put hT (L[i]).job (L[i]).bdg (L[i]).idx (L[i]).tx)
        have HKeep : Hid (∀ V1, Gp F b (nxt (run st0 (L.take i)) (L[i]).job (L[i]).bdg (L[i]).idx (L[i]).tx) (T ++ news (run st0 (L.take i)) (L[i]).job (L[i]).bdg (L[i]).idx (L[i]).tx) wr.drew V1 → V1.cell? ⟨ab, ao + i * 9 + 2, none⟩ = some (.int .i64 (L[i]).job) ∧ V1.cell? ⟨ab, ao + i * 9 + 3, none⟩ = some (.int .i64 (L[i]).bdg) ∧ V1.cell? ⟨ab, ao + i * 9 + 4, none⟩ = some (.int .i64 (L[i]).idx) ∧ V1.cell? ⟨ab, ao + i * 9 + 5, none⟩ = some (.string (L[i]).tx)) := hide fun V1 hg => by
          obtain ⟨_, hd⟩ := HR.out.1.drew.step1 hg
          exact four_at (HO.out.keep (w' := V1) fun _ => hd.low.block ab hab) hil
        clear hT htk hab HO2
        generalize (L[i]).job = job at *
        generalize (L[i]).bdg = bdg at *
        generalize (L[i]).idx = idx at *
        generalize (L[i]).tx = tx at *
        generalize ans (run st0 (L.take i)) job bdg idx tx = pn at HC
        generalize adm (run st0 (L.take i)) job bdg idx tx = pa at HC
        generalize pe (run st0 (L.take i)) job bdg idx tx = pq at HC
        go_wp2_with fail
        refine wp_region_held_drew (S := fun w' => w'.cell? ⟨ab, ao + i * 9 + 2, none⟩ = some (.int .i64 job) ∧ w'.cell? ⟨ab, ao + i * 9 + 3, none⟩ = some (.int .i64 bdg) ∧ w'.cell? ⟨ab, ao + i * 9 + 4, none⟩ = some (.int .i64 idx) ∧ w'.cell? ⟨ab, ao + i * 9 + 5, none⟩ = some (.string tx)) (by kernel_rfl) (HS0.out) (fun hHeld => ?_)
        refine wpAnyH_take (i := 0) (v := .pointer (some ⟨b, 0, none⟩)) rfl (by kernel_rfl) (by kernel_rfl) (by kernel_rfl) (fun _ _ _ h => h) (Or.inl ⟨by kernel_rfl, fun w1 hSw => by clear hHeld; obtain ⟨k2, k3, k4, k5⟩ := hSw; go_simp⟩) hHeld ?_
        try simp only [Act.put]
        try simp only [List.getElem_toArray]
        try simp only [List.getElem_cons_succ]
        try simp only [List.getElem_cons_zero]
        try simp only [List.setIfInBounds_toArray]
        try simp only [List.set_cons_succ, List.set_cons_zero]
        refine wpAnyH_take (i := 1) (v := .slice (some ⟨ab, ao, none⟩) L.length cap) rfl (by kernel_rfl) (by kernel_rfl) (by kernel_rfl) (fun _ _ _ h => h) (Or.inl ⟨by kernel_rfl, fun w1 hSw => by clear hHeld; obtain ⟨k2, k3, k4, k5⟩ := hSw; go_simp⟩) hHeld ?_
        try simp only [Act.put]
        try simp only [List.getElem_toArray]
        try simp only [List.getElem_cons_succ]
        try simp only [List.getElem_cons_zero]
        try simp only [List.setIfInBounds_toArray]
        try simp only [List.set_cons_succ, List.set_cons_zero]
        refine wpAnyH_take (i := 2) (v := .int .i64 (i : Int)) rfl (by kernel_rfl) (by kernel_rfl) (by kernel_rfl) (fun _ _ _ h => h) (Or.inl ⟨by kernel_rfl, fun w1 hSw => by clear hHeld; obtain ⟨k2, k3, k4, k5⟩ := hSw; go_simp⟩) hHeld ?_
        try simp only [Act.put]
        try simp only [List.getElem_toArray]
        try simp only [List.getElem_cons_succ]
        try simp only [List.getElem_cons_zero]
        try simp only [List.setIfInBounds_toArray]
        try simp only [List.set_cons_succ, List.set_cons_zero]
        refine wpAnyH_take (i := 3) (v := .pointer (some ⟨ab, ao + i * 9, none⟩)) rfl (by kernel_rfl) (by kernel_rfl) (by kernel_rfl) (fun _ _ _ h => h) (Or.inl ⟨by kernel_rfl, fun w1 hSw => by clear hHeld; obtain ⟨k2, k3, k4, k5⟩ := hSw; go_simp⟩) hHeld ?_
        try simp only [Act.put]
        try simp only [List.getElem_toArray]
        try simp only [List.getElem_cons_succ]
        try simp only [List.getElem_cons_zero]
        try simp only [List.setIfInBounds_toArray]
        try simp only [List.set_cons_succ, List.set_cons_zero]
        refine wpAnyH_take (i := 4) (v := .pointer (some ⟨ab, ao + i * 9 + 2, none⟩)) rfl (by kernel_rfl) (by kernel_rfl) (by kernel_rfl) (fun _ _ _ h => h) (Or.inl ⟨by kernel_rfl, fun w1 hSw => by clear hHeld; obtain ⟨k2, k3, k4, k5⟩ := hSw; go_simp⟩) hHeld ?_
        try simp only [Act.put]
        try simp only [List.getElem_toArray]
        try simp only [List.getElem_cons_succ]
        try simp only [List.getElem_cons_zero]
        try simp only [List.setIfInBounds_toArray]
        try simp only [List.set_cons_succ, List.set_cons_zero]
        refine wpAnyH_take (i := 5) (v := .int .i64 job) rfl (by kernel_rfl) (by kernel_rfl) (by kernel_rfl) (fun _ _ _ h => h) (Or.inl ⟨by kernel_rfl, fun w1 hSw => by clear hHeld; obtain ⟨k2, k3, k4, k5⟩ := hSw; go_simp⟩) hHeld ?_
        try simp only [Act.put]
        try simp only [List.getElem_toArray]
        try simp only [List.getElem_cons_succ]
        try simp only [List.getElem_cons_zero]
        try simp only [List.setIfInBounds_toArray]
        try simp only [List.set_cons_succ, List.set_cons_zero]
        refine wpAnyH_take (i := 6) (v := .slice (some ⟨ab, ao, none⟩) L.length cap) rfl (by kernel_rfl) (by kernel_rfl) (by kernel_rfl) (fun _ _ _ h => h) (Or.inl ⟨by kernel_rfl, fun w1 hSw => by clear hHeld; obtain ⟨k2, k3, k4, k5⟩ := hSw; go_simp⟩) hHeld ?_
        try simp only [Act.put]
        try simp only [List.getElem_toArray]
        try simp only [List.getElem_cons_succ]
        try simp only [List.getElem_cons_zero]
        try simp only [List.setIfInBounds_toArray]
        try simp only [List.set_cons_succ, List.set_cons_zero]
        refine wpAnyH_take (i := 7) (v := .int .i64 (i : Int)) rfl (by kernel_rfl) (by kernel_rfl) (by kernel_rfl) (fun _ _ _ h => h) (Or.inl ⟨by kernel_rfl, fun w1 hSw => by clear hHeld; obtain ⟨k2, k3, k4, k5⟩ := hSw; go_simp⟩) hHeld ?_
        try simp only [Act.put]
        try simp only [List.getElem_toArray]
        try simp only [List.getElem_cons_succ]
        try simp only [List.getElem_cons_zero]
        try simp only [List.setIfInBounds_toArray]
        try simp only [List.set_cons_succ, List.set_cons_zero]
        refine wpAnyH_take (i := 8) (v := .pointer (some ⟨ab, ao + i * 9, none⟩)) rfl (by kernel_rfl) (by kernel_rfl) (by kernel_rfl) (fun _ _ _ h => h) (Or.inl ⟨by kernel_rfl, fun w1 hSw => by clear hHeld; obtain ⟨k2, k3, k4, k5⟩ := hSw; go_simp⟩) hHeld ?_
        try simp only [Act.put]
        try simp only [List.getElem_toArray]
        try simp only [List.getElem_cons_succ]
        try simp only [List.getElem_cons_zero]
        try simp only [List.setIfInBounds_toArray]
        try simp only [List.set_cons_succ, List.set_cons_zero]
        refine wpAnyH_take (i := 9) (v := .pointer (some ⟨ab, ao + i * 9 + 3, none⟩)) rfl (by kernel_rfl) (by kernel_rfl) (by kernel_rfl) (fun _ _ _ h => h) (Or.inl ⟨by kernel_rfl, fun w1 hSw => by clear hHeld; obtain ⟨k2, k3, k4, k5⟩ := hSw; go_simp⟩) hHeld ?_
        try simp only [Act.put]
        try simp only [List.getElem_toArray]
        try simp only [List.getElem_cons_succ]
        try simp only [List.getElem_cons_zero]
        try simp only [List.setIfInBounds_toArray]
        try simp only [List.set_cons_succ, List.set_cons_zero]
        refine wpAnyH_take (i := 10) (v := .int .i64 bdg) rfl (by kernel_rfl) (by kernel_rfl) (by kernel_rfl) (fun _ _ _ h => h) (Or.inl ⟨by kernel_rfl, fun w1 hSw => by clear hHeld; obtain ⟨k2, k3, k4, k5⟩ := hSw; go_simp⟩) hHeld ?_
        try simp only [Act.put]
        try simp only [List.getElem_toArray]
        try simp only [List.getElem_cons_succ]
        try simp only [List.getElem_cons_zero]
        try simp only [List.setIfInBounds_toArray]
        try simp only [List.set_cons_succ, List.set_cons_zero]
        refine wpAnyH_take (i := 11) (v := .slice (some ⟨ab, ao, none⟩) L.length cap) rfl (by kernel_rfl) (by kernel_rfl) (by kernel_rfl) (fun _ _ _ h => h) (Or.inl ⟨by kernel_rfl, fun w1 hSw => by clear hHeld; obtain ⟨k2, k3, k4, k5⟩ := hSw; go_simp⟩) hHeld ?_
        try simp only [Act.put]
        try simp only [List.getElem_toArray]
        try simp only [List.getElem_cons_succ]
        try simp only [List.getElem_cons_zero]
        try simp only [List.setIfInBounds_toArray]
        try simp only [List.set_cons_succ, List.set_cons_zero]
        refine wpAnyH_take (i := 12) (v := .int .i64 (i : Int)) rfl (by kernel_rfl) (by kernel_rfl) (by kernel_rfl) (fun _ _ _ h => h) (Or.inl ⟨by kernel_rfl, fun w1 hSw => by clear hHeld; obtain ⟨k2, k3, k4, k5⟩ := hSw; go_simp⟩) hHeld ?_
        try simp only [Act.put]
        try simp only [List.getElem_toArray]
        try simp only [List.getElem_cons_succ]
        try simp only [List.getElem_cons_zero]
        try simp only [List.setIfInBounds_toArray]
        try simp only [List.set_cons_succ, List.set_cons_zero]
        refine wpAnyH_take (i := 13) (v := .pointer (some ⟨ab, ao + i * 9, none⟩)) rfl (by kernel_rfl) (by kernel_rfl) (by kernel_rfl) (fun _ _ _ h => h) (Or.inl ⟨by kernel_rfl, fun w1 hSw => by clear hHeld; obtain ⟨k2, k3, k4, k5⟩ := hSw; go_simp⟩) hHeld ?_
        try simp only [Act.put]
        try simp only [List.getElem_toArray]
        try simp only [List.getElem_cons_succ]
        try simp only [List.getElem_cons_zero]
        try simp only [List.setIfInBounds_toArray]
        try simp only [List.set_cons_succ, List.set_cons_zero]
        refine wpAnyH_take (i := 14) (v := .pointer (some ⟨ab, ao + i * 9 + 4, none⟩)) rfl (by kernel_rfl) (by kernel_rfl) (by kernel_rfl) (fun _ _ _ h => h) (Or.inl ⟨by kernel_rfl, fun w1 hSw => by clear hHeld; obtain ⟨k2, k3, k4, k5⟩ := hSw; go_simp⟩) hHeld ?_
        try simp only [Act.put]
        try simp only [List.getElem_toArray]
        try simp only [List.getElem_cons_succ]
        try simp only [List.getElem_cons_zero]
        try simp only [List.setIfInBounds_toArray]
        try simp only [List.set_cons_succ, List.set_cons_zero]
        refine wpAnyH_take (i := 15) (v := .int .i64 idx) rfl (by kernel_rfl) (by kernel_rfl) (by kernel_rfl) (fun _ _ _ h => h) (Or.inl ⟨by kernel_rfl, fun w1 hSw => by clear hHeld; obtain ⟨k2, k3, k4, k5⟩ := hSw; go_simp⟩) hHeld ?_
        try simp only [Act.put]
        try simp only [List.getElem_toArray]
        try simp only [List.getElem_cons_succ]
        try simp only [List.getElem_cons_zero]
        try simp only [List.setIfInBounds_toArray]
        try simp only [List.set_cons_succ, List.set_cons_zero]
        refine wpAnyH_take (i := 16) (v := .slice (some ⟨ab, ao, none⟩) L.length cap) rfl (by kernel_rfl) (by kernel_rfl) (by kernel_rfl) (fun _ _ _ h => h) (Or.inl ⟨by kernel_rfl, fun w1 hSw => by clear hHeld; obtain ⟨k2, k3, k4, k5⟩ := hSw; go_simp⟩) hHeld ?_
        try simp only [Act.put]
        try simp only [List.getElem_toArray]
        try simp only [List.getElem_cons_succ]
        try simp only [List.getElem_cons_zero]
        try simp only [List.setIfInBounds_toArray]
        try simp only [List.set_cons_succ, List.set_cons_zero]
        refine wpAnyH_take (i := 17) (v := .int .i64 (i : Int)) rfl (by kernel_rfl) (by kernel_rfl) (by kernel_rfl) (fun _ _ _ h => h) (Or.inl ⟨by kernel_rfl, fun w1 hSw => by clear hHeld; obtain ⟨k2, k3, k4, k5⟩ := hSw; go_simp⟩) hHeld ?_
        try simp only [Act.put]
        try simp only [List.getElem_toArray]
        try simp only [List.getElem_cons_succ]
        try simp only [List.getElem_cons_zero]
        try simp only [List.setIfInBounds_toArray]
        try simp only [List.set_cons_succ, List.set_cons_zero]
        refine wpAnyH_take (i := 18) (v := .pointer (some ⟨ab, ao + i * 9, none⟩)) rfl (by kernel_rfl) (by kernel_rfl) (by kernel_rfl) (fun _ _ _ h => h) (Or.inl ⟨by kernel_rfl, fun w1 hSw => by clear hHeld; obtain ⟨k2, k3, k4, k5⟩ := hSw; go_simp⟩) hHeld ?_
        try simp only [Act.put]
        try simp only [List.getElem_toArray]
        try simp only [List.getElem_cons_succ]
        try simp only [List.getElem_cons_zero]
        try simp only [List.setIfInBounds_toArray]
        try simp only [List.set_cons_succ, List.set_cons_zero]
        refine wpAnyH_take (i := 19) (v := .pointer (some ⟨ab, ao + i * 9 + 5, none⟩)) rfl (by kernel_rfl) (by kernel_rfl) (by kernel_rfl) (fun _ _ _ h => h) (Or.inl ⟨by kernel_rfl, fun w1 hSw => by clear hHeld; obtain ⟨k2, k3, k4, k5⟩ := hSw; go_simp⟩) hHeld ?_
        try simp only [Act.put]
        try simp only [List.getElem_toArray]
        try simp only [List.getElem_cons_succ]
        try simp only [List.getElem_cons_zero]
        try simp only [List.setIfInBounds_toArray]
        try simp only [List.set_cons_succ, List.set_cons_zero]
        refine wpAnyH_take (i := 20) (v := .string tx) rfl (by kernel_rfl) (by kernel_rfl) (by kernel_rfl) (fun _ _ _ h => h) (Or.inl ⟨by kernel_rfl, fun w1 hSw => by clear hHeld; obtain ⟨k2, k3, k4, k5⟩ := hSw; go_simp⟩) hHeld ?_
        try simp only [Act.put]
        try simp only [List.getElem_toArray]
        try simp only [List.getElem_cons_succ]
        try simp only [List.getElem_cons_zero]
        try simp only [List.setIfInBounds_toArray]
        try simp only [List.set_cons_succ, List.set_cons_zero]
        refine wpAnyH_ready (rs := [21]) (by kernel_rfl) (by simp) ?_
        refine AllReadyH.cons rfl (fun K hK => ?_) AllReadyH.nil
        go_simp
        refine HC.out.mono ?_
        rintro e V1 ⟨rfl, hg⟩
        have HG := hide hg
        have HS1 := hide (HKeep.out _ hg)
        clear hg
        refine hK.out _ _ (HS1.out) (fun hHeld => ?_)
        clear hK K
        try simp only [Act.put]
        try simp only [List.getElem_toArray]
        try simp only [List.getElem_cons_succ]
        try simp only [List.getElem_cons_zero]
        try simp only [List.setIfInBounds_toArray]
        try simp only [List.set_cons_succ, List.set_cons_zero]
        refine wpAnyH_done (by kernel_rfl) ?_ _
        clear hHeld
        obtain ⟨F2, hd2⟩ := HR.out.1.drew.step1 HG.out
        have HD3 := hide hd2
        clear hd2
        go_wp2_with fail
        exact ⟨⟨i + 1, _, F2, by go_num, by omega, hide ⟨by rw [HN.out.1]; exact HD3.out, by rw [HN.out.2, List.length_append, HR.out.2]⟩⟩, by simp [intOf]; omega⟩
    · as_aux_lemma =>
        obtain rfl : i = L.length := by omega
        rw [List.take_length] at HR
        obtain ⟨s, hs⟩ : ∃ s, s = run st0 L := ⟨_, rfl⟩
        rw [← hs] at HR
        have HSr := hide hs
        clear hs
        have HTl := hide HR.out.2
        have HD := hide HR.out.1
        clear HR
        go_wp2_with fail
        go_loopw [6, 7] (fun t6 _ wr => ∃ (n : Nat) (u : St) (U : List Ev) (G : Nat → Prop), t6 = .int .i64 (n : Int) ∧ n ≤ 8 ∧ Hid (Dj w b c s u T U F G wr ∧ (∀ j : Int, u j = if (n : Int) < j ∧ j ≤ 8 then run st0 (ofJ j L) j else (0, [])) ∧ U.length + sumJ (fun j => tot st0 (ofJ j L)) n = sumJ (fun j => tot st0 (ofJ j L)) 8)) (fun t6 _ _ => (intOf t6).toNat)
        case atStart => exact ⟨8, st0, [], G0, rfl, Nat.le_refl _, ⟨HD.out, fun j => by rw [if_neg (by omega)]; rfl, by simp⟩⟩
        case round =>
          clear HD
          obtain ⟨n, u, U, G, rfl, hn, HR⟩ := hrel
          by_cases hn1 : 1 ≤ n
          · have hd1 : decide ((1 : Int) ≤ (n : Int)) = true := by simp; omega
            go_wp2_with fail
            go_loopw [7] (fun t7 wr => ∃ (i : Nat) (U' : List Ev) (G' : Nat → Prop), t7 = .int .i64 (i : Int) ∧ i ≤ L.length ∧ Hid (Dj w b c s (run u (ofJ n (L.take i))) T U' F G' wr ∧ U'.length = U.length + tot u (ofJ n (L.take i)))) (fun t7 _ => L.length - (intOf t7).toNat)
            case atStart => exact ⟨0, U, G, rfl, Nat.zero_le _, ⟨HR.out.1, rfl⟩⟩
            case round =>
              obtain ⟨i, U', G', rfl, hi, HQ⟩ := hrel
              by_cases hil : i < L.length
              · have hab : ab < w.heap.size := HO.out.lt (by omega)
                have had := HO.out.at_ (by omega)
                subst had
                have htk : L.take (i + 1) = L.take i ++ [L[i]] := by rw [List.take_succ_eq_append_getElem hil]
                obtain ⟨q2, q3, q4, q5⟩ := four_at (HO.out.keep (w' := wr) fun _ => HQ.out.1.low.block ab hab) hil
                by_cases hj : (L[i]).job = (n : Int)
                · have HS0 := hide (four_at (HO.out.keep (w' := wr.drew) fun _ => HQ.out.1.low.block ab hab) hil)
                  have hU : U'.length ≤ 1600000000000 := by
                    have h1 := HQ.out.2
                    have h2 := tot_le (ofJ n (L.take i)) u
                    have h3 : (ofJ n (L.take i)).length ≤ (L.take i).length := List.length_filter_le _ _
                    have h4 := List.length_take_le i L
                    have h5 := HR.out.2.2
                    have h6 : sumJ (fun j => tot st0 (ofJ j L)) 8 = tot st0 L := (tot_jobs L st0).symm
                    have h7 := tot_le L st0
                    obtain ⟨m, hm⟩ : ∃ m, n = m + 1 := ⟨n - 1, by omega⟩
                    have hz : u (n : Int) = st0 (n : Int) := by rw [HR.out.2.1, if_neg (by omega)]; rfl
                    have h8 : sumJ (fun j => tot st0 (ofJ j L)) n = sumJ (fun j => tot st0 (ofJ j L)) m + tot st0 (ofJ (n : Int) L) := by rw [hm]; rfl
                    have h9 : tot u (ofJ (n : Int) L) = tot u (ofJ (n : Int) (L.take i)) + tot (run u (ofJ (n : Int) (L.take i))) (ofJ (n : Int) (L.drop i)) := by rw [← tot_append, ← ofJ_append, List.take_append_drop]
                    rw [tot_loc _ L _ _ hz] at h9
                    omega
                  have HN : Hid (run u (ofJ n (L.take (i + 1))) = nxt (run u (ofJ n (L.take i))) (L[i]).job (L[i]).bdg (L[i]).idx (L[i]).tx ∧ tot u (ofJ n (L.take (i + 1))) = tot u (ofJ n (L.take i)) + (news (run u (ofJ n (L.take i))) (L[i]).job (L[i]).bdg (L[i]).idx (L[i]).tx).length) := hide ⟨by rw [htk, ofJ_append, ofJ_yes hj, run_append]; rfl, by rw [htk, ofJ_append, ofJ_yes hj, tot_append]; rfl⟩
                  have HC := hide (HQ.out.1.drew.two.put hU (L[i]).job (L[i]).bdg (L[i]).idx (L[i]).tx)
                  have HKeep : Hid (∀ V1, Gp G' c (nxt (run u (ofJ n (L.take i))) (L[i]).job (L[i]).bdg (L[i]).idx (L[i]).tx) (U' ++ news (run u (ofJ n (L.take i))) (L[i]).job (L[i]).bdg (L[i]).idx (L[i]).tx) wr.drew V1 → V1.cell? ⟨ab, ao + i * 9 + 2, none⟩ = some (.int .i64 (L[i]).job) ∧ V1.cell? ⟨ab, ao + i * 9 + 3, none⟩ = some (.int .i64 (L[i]).bdg) ∧ V1.cell? ⟨ab, ao + i * 9 + 4, none⟩ = some (.int .i64 (L[i]).idx) ∧ V1.cell? ⟨ab, ao + i * 9 + 5, none⟩ = some (.string (L[i]).tx)) := hide fun V1 hg => by
                    obtain ⟨_, hd⟩ := HQ.out.1.drew.step2 hg
                    exact four_at (HO.out.keep (w' := V1) fun _ => hd.low.block ab hab) hil
                  have hj2 : ((L[i]).job == (n : Int)) = true := by simpa using hj
                  clear hU htk hab hj
                  generalize (L[i]).job = job at *
                  generalize (L[i]).bdg = bdg at *
                  generalize (L[i]).idx = idx at *
                  generalize (L[i]).tx = tx at *
                  generalize ans (run u (ofJ n (L.take i))) job bdg idx tx = pn at HC
                  generalize adm (run u (ofJ n (L.take i))) job bdg idx tx = pa at HC
                  generalize pe (run u (ofJ n (L.take i))) job bdg idx tx = pq at HC
                  go_wp2_with fail
                  refine wp_region_held_drew (S := fun w' => w'.cell? ⟨ab, ao + i * 9 + 2, none⟩ = some (.int .i64 job) ∧ w'.cell? ⟨ab, ao + i * 9 + 3, none⟩ = some (.int .i64 bdg) ∧ w'.cell? ⟨ab, ao + i * 9 + 4, none⟩ = some (.int .i64 idx) ∧ w'.cell? ⟨ab, ao + i * 9 + 5, none⟩ = some (.string tx)) (by kernel_rfl) (HS0.out) (fun hHeld => ?_)
                  refine wpAnyH_take (i := 0) (v := .pointer (some ⟨c, 0, none⟩)) rfl (by kernel_rfl) (by kernel_rfl) (by kernel_rfl) (fun _ _ _ h => h) (Or.inl ⟨by kernel_rfl, fun w1 hSw => by clear hHeld; obtain ⟨k2, k3, k4, k5⟩ := hSw; go_simp⟩) hHeld ?_
                  try simp only [Act.put]
                  try simp only [List.getElem_toArray]
                  try simp only [List.getElem_cons_succ]
                  try simp only [List.getElem_cons_zero]
                  try simp only [List.setIfInBounds_toArray]
                  try simp only [List.set_cons_succ, List.set_cons_zero]
                  refine wpAnyH_take (i := 1) (v := .slice (some ⟨ab, ao, none⟩) L.length cap) rfl (by kernel_rfl) (by kernel_rfl) (by kernel_rfl) (fun _ _ _ h => h) (Or.inl ⟨by kernel_rfl, fun w1 hSw => by clear hHeld; obtain ⟨k2, k3, k4, k5⟩ := hSw; go_simp⟩) hHeld ?_
                  try simp only [Act.put]
                  try simp only [List.getElem_toArray]
                  try simp only [List.getElem_cons_succ]
                  try simp only [List.getElem_cons_zero]
                  try simp only [List.setIfInBounds_toArray]
                  try simp only [List.set_cons_succ, List.set_cons_zero]
                  refine wpAnyH_take (i := 2) (v := .int .i64 (i : Int)) rfl (by kernel_rfl) (by kernel_rfl) (by kernel_rfl) (fun _ _ _ h => h) (Or.inl ⟨by kernel_rfl, fun w1 hSw => by clear hHeld; obtain ⟨k2, k3, k4, k5⟩ := hSw; go_simp⟩) hHeld ?_
                  try simp only [Act.put]
                  try simp only [List.getElem_toArray]
                  try simp only [List.getElem_cons_succ]
                  try simp only [List.getElem_cons_zero]
                  try simp only [List.setIfInBounds_toArray]
                  try simp only [List.set_cons_succ, List.set_cons_zero]
                  refine wpAnyH_take (i := 3) (v := .pointer (some ⟨ab, ao + i * 9, none⟩)) rfl (by kernel_rfl) (by kernel_rfl) (by kernel_rfl) (fun _ _ _ h => h) (Or.inl ⟨by kernel_rfl, fun w1 hSw => by clear hHeld; obtain ⟨k2, k3, k4, k5⟩ := hSw; go_simp⟩) hHeld ?_
                  try simp only [Act.put]
                  try simp only [List.getElem_toArray]
                  try simp only [List.getElem_cons_succ]
                  try simp only [List.getElem_cons_zero]
                  try simp only [List.setIfInBounds_toArray]
                  try simp only [List.set_cons_succ, List.set_cons_zero]
                  refine wpAnyH_take (i := 4) (v := .pointer (some ⟨ab, ao + i * 9 + 2, none⟩)) rfl (by kernel_rfl) (by kernel_rfl) (by kernel_rfl) (fun _ _ _ h => h) (Or.inl ⟨by kernel_rfl, fun w1 hSw => by clear hHeld; obtain ⟨k2, k3, k4, k5⟩ := hSw; go_simp⟩) hHeld ?_
                  try simp only [Act.put]
                  try simp only [List.getElem_toArray]
                  try simp only [List.getElem_cons_succ]
                  try simp only [List.getElem_cons_zero]
                  try simp only [List.setIfInBounds_toArray]
                  try simp only [List.set_cons_succ, List.set_cons_zero]
                  refine wpAnyH_take (i := 5) (v := .int .i64 job) rfl (by kernel_rfl) (by kernel_rfl) (by kernel_rfl) (fun _ _ _ h => h) (Or.inl ⟨by kernel_rfl, fun w1 hSw => by clear hHeld; obtain ⟨k2, k3, k4, k5⟩ := hSw; go_simp⟩) hHeld ?_
                  try simp only [Act.put]
                  try simp only [List.getElem_toArray]
                  try simp only [List.getElem_cons_succ]
                  try simp only [List.getElem_cons_zero]
                  try simp only [List.setIfInBounds_toArray]
                  try simp only [List.set_cons_succ, List.set_cons_zero]
                  refine wpAnyH_take (i := 6) (v := .slice (some ⟨ab, ao, none⟩) L.length cap) rfl (by kernel_rfl) (by kernel_rfl) (by kernel_rfl) (fun _ _ _ h => h) (Or.inl ⟨by kernel_rfl, fun w1 hSw => by clear hHeld; obtain ⟨k2, k3, k4, k5⟩ := hSw; go_simp⟩) hHeld ?_
                  try simp only [Act.put]
                  try simp only [List.getElem_toArray]
                  try simp only [List.getElem_cons_succ]
                  try simp only [List.getElem_cons_zero]
                  try simp only [List.setIfInBounds_toArray]
                  try simp only [List.set_cons_succ, List.set_cons_zero]
                  refine wpAnyH_take (i := 7) (v := .int .i64 (i : Int)) rfl (by kernel_rfl) (by kernel_rfl) (by kernel_rfl) (fun _ _ _ h => h) (Or.inl ⟨by kernel_rfl, fun w1 hSw => by clear hHeld; obtain ⟨k2, k3, k4, k5⟩ := hSw; go_simp⟩) hHeld ?_
                  try simp only [Act.put]
                  try simp only [List.getElem_toArray]
                  try simp only [List.getElem_cons_succ]
                  try simp only [List.getElem_cons_zero]
                  try simp only [List.setIfInBounds_toArray]
                  try simp only [List.set_cons_succ, List.set_cons_zero]
                  refine wpAnyH_take (i := 8) (v := .pointer (some ⟨ab, ao + i * 9, none⟩)) rfl (by kernel_rfl) (by kernel_rfl) (by kernel_rfl) (fun _ _ _ h => h) (Or.inl ⟨by kernel_rfl, fun w1 hSw => by clear hHeld; obtain ⟨k2, k3, k4, k5⟩ := hSw; go_simp⟩) hHeld ?_
                  try simp only [Act.put]
                  try simp only [List.getElem_toArray]
                  try simp only [List.getElem_cons_succ]
                  try simp only [List.getElem_cons_zero]
                  try simp only [List.setIfInBounds_toArray]
                  try simp only [List.set_cons_succ, List.set_cons_zero]
                  refine wpAnyH_take (i := 9) (v := .pointer (some ⟨ab, ao + i * 9 + 3, none⟩)) rfl (by kernel_rfl) (by kernel_rfl) (by kernel_rfl) (fun _ _ _ h => h) (Or.inl ⟨by kernel_rfl, fun w1 hSw => by clear hHeld; obtain ⟨k2, k3, k4, k5⟩ := hSw; go_simp⟩) hHeld ?_
                  try simp only [Act.put]
                  try simp only [List.getElem_toArray]
                  try simp only [List.getElem_cons_succ]
                  try simp only [List.getElem_cons_zero]
                  try simp only [List.setIfInBounds_toArray]
                  try simp only [List.set_cons_succ, List.set_cons_zero]
                  refine wpAnyH_take (i := 10) (v := .int .i64 bdg) rfl (by kernel_rfl) (by kernel_rfl) (by kernel_rfl) (fun _ _ _ h => h) (Or.inl ⟨by kernel_rfl, fun w1 hSw => by clear hHeld; obtain ⟨k2, k3, k4, k5⟩ := hSw; go_simp⟩) hHeld ?_
                  try simp only [Act.put]
                  try simp only [List.getElem_toArray]
                  try simp only [List.getElem_cons_succ]
                  try simp only [List.getElem_cons_zero]
                  try simp only [List.setIfInBounds_toArray]
                  try simp only [List.set_cons_succ, List.set_cons_zero]
                  refine wpAnyH_take (i := 11) (v := .slice (some ⟨ab, ao, none⟩) L.length cap) rfl (by kernel_rfl) (by kernel_rfl) (by kernel_rfl) (fun _ _ _ h => h) (Or.inl ⟨by kernel_rfl, fun w1 hSw => by clear hHeld; obtain ⟨k2, k3, k4, k5⟩ := hSw; go_simp⟩) hHeld ?_
                  try simp only [Act.put]
                  try simp only [List.getElem_toArray]
                  try simp only [List.getElem_cons_succ]
                  try simp only [List.getElem_cons_zero]
                  try simp only [List.setIfInBounds_toArray]
                  try simp only [List.set_cons_succ, List.set_cons_zero]
                  refine wpAnyH_take (i := 12) (v := .int .i64 (i : Int)) rfl (by kernel_rfl) (by kernel_rfl) (by kernel_rfl) (fun _ _ _ h => h) (Or.inl ⟨by kernel_rfl, fun w1 hSw => by clear hHeld; obtain ⟨k2, k3, k4, k5⟩ := hSw; go_simp⟩) hHeld ?_
                  try simp only [Act.put]
                  try simp only [List.getElem_toArray]
                  try simp only [List.getElem_cons_succ]
                  try simp only [List.getElem_cons_zero]
                  try simp only [List.setIfInBounds_toArray]
                  try simp only [List.set_cons_succ, List.set_cons_zero]
                  refine wpAnyH_take (i := 13) (v := .pointer (some ⟨ab, ao + i * 9, none⟩)) rfl (by kernel_rfl) (by kernel_rfl) (by kernel_rfl) (fun _ _ _ h => h) (Or.inl ⟨by kernel_rfl, fun w1 hSw => by clear hHeld; obtain ⟨k2, k3, k4, k5⟩ := hSw; go_simp⟩) hHeld ?_
                  try simp only [Act.put]
                  try simp only [List.getElem_toArray]
                  try simp only [List.getElem_cons_succ]
                  try simp only [List.getElem_cons_zero]
                  try simp only [List.setIfInBounds_toArray]
                  try simp only [List.set_cons_succ, List.set_cons_zero]
                  refine wpAnyH_take (i := 14) (v := .pointer (some ⟨ab, ao + i * 9 + 4, none⟩)) rfl (by kernel_rfl) (by kernel_rfl) (by kernel_rfl) (fun _ _ _ h => h) (Or.inl ⟨by kernel_rfl, fun w1 hSw => by clear hHeld; obtain ⟨k2, k3, k4, k5⟩ := hSw; go_simp⟩) hHeld ?_
                  try simp only [Act.put]
                  try simp only [List.getElem_toArray]
                  try simp only [List.getElem_cons_succ]
                  try simp only [List.getElem_cons_zero]
                  try simp only [List.setIfInBounds_toArray]
                  try simp only [List.set_cons_succ, List.set_cons_zero]
                  refine wpAnyH_take (i := 15) (v := .int .i64 idx) rfl (by kernel_rfl) (by kernel_rfl) (by kernel_rfl) (fun _ _ _ h => h) (Or.inl ⟨by kernel_rfl, fun w1 hSw => by clear hHeld; obtain ⟨k2, k3, k4, k5⟩ := hSw; go_simp⟩) hHeld ?_
                  try simp only [Act.put]
                  try simp only [List.getElem_toArray]
                  try simp only [List.getElem_cons_succ]
                  try simp only [List.getElem_cons_zero]
                  try simp only [List.setIfInBounds_toArray]
                  try simp only [List.set_cons_succ, List.set_cons_zero]
                  refine wpAnyH_take (i := 16) (v := .slice (some ⟨ab, ao, none⟩) L.length cap) rfl (by kernel_rfl) (by kernel_rfl) (by kernel_rfl) (fun _ _ _ h => h) (Or.inl ⟨by kernel_rfl, fun w1 hSw => by clear hHeld; obtain ⟨k2, k3, k4, k5⟩ := hSw; go_simp⟩) hHeld ?_
                  try simp only [Act.put]
                  try simp only [List.getElem_toArray]
                  try simp only [List.getElem_cons_succ]
                  try simp only [List.getElem_cons_zero]
                  try simp only [List.setIfInBounds_toArray]
                  try simp only [List.set_cons_succ, List.set_cons_zero]
                  refine wpAnyH_take (i := 17) (v := .int .i64 (i : Int)) rfl (by kernel_rfl) (by kernel_rfl) (by kernel_rfl) (fun _ _ _ h => h) (Or.inl ⟨by kernel_rfl, fun w1 hSw => by clear hHeld; obtain ⟨k2, k3, k4, k5⟩ := hSw; go_simp⟩) hHeld ?_
                  try simp only [Act.put]
                  try simp only [List.getElem_toArray]
                  try simp only [List.getElem_cons_succ]
                  try simp only [List.getElem_cons_zero]
                  try simp only [List.setIfInBounds_toArray]
                  try simp only [List.set_cons_succ, List.set_cons_zero]
                  refine wpAnyH_take (i := 18) (v := .pointer (some ⟨ab, ao + i * 9, none⟩)) rfl (by kernel_rfl) (by kernel_rfl) (by kernel_rfl) (fun _ _ _ h => h) (Or.inl ⟨by kernel_rfl, fun w1 hSw => by clear hHeld; obtain ⟨k2, k3, k4, k5⟩ := hSw; go_simp⟩) hHeld ?_
                  try simp only [Act.put]
                  try simp only [List.getElem_toArray]
                  try simp only [List.getElem_cons_succ]
                  try simp only [List.getElem_cons_zero]
                  try simp only [List.setIfInBounds_toArray]
                  try simp only [List.set_cons_succ, List.set_cons_zero]
                  refine wpAnyH_take (i := 19) (v := .pointer (some ⟨ab, ao + i * 9 + 5, none⟩)) rfl (by kernel_rfl) (by kernel_rfl) (by kernel_rfl) (fun _ _ _ h => h) (Or.inl ⟨by kernel_rfl, fun w1 hSw => by clear hHeld; obtain ⟨k2, k3, k4, k5⟩ := hSw; go_simp⟩) hHeld ?_
                  try simp only [Act.put]
                  try simp only [List.getElem_toArray]
                  try simp only [List.getElem_cons_succ]
                  try simp only [List.getElem_cons_zero]
                  try simp only [List.setIfInBounds_toArray]
                  try simp only [List.set_cons_succ, List.set_cons_zero]
                  refine wpAnyH_take (i := 20) (v := .string tx) rfl (by kernel_rfl) (by kernel_rfl) (by kernel_rfl) (fun _ _ _ h => h) (Or.inl ⟨by kernel_rfl, fun w1 hSw => by clear hHeld; obtain ⟨k2, k3, k4, k5⟩ := hSw; go_simp⟩) hHeld ?_
                  try simp only [Act.put]
                  try simp only [List.getElem_toArray]
                  try simp only [List.getElem_cons_succ]
                  try simp only [List.getElem_cons_zero]
                  try simp only [List.setIfInBounds_toArray]
                  try simp only [List.set_cons_succ, List.set_cons_zero]
                  refine wpAnyH_ready (rs := [21]) (by kernel_rfl) (by simp) ?_
                  refine AllReadyH.cons rfl (fun K hK => ?_) AllReadyH.nil
                  go_simp
                  refine HC.out.mono ?_
                  rintro e V1 ⟨rfl, hg⟩
                  have HG := hide hg
                  have HS1 := hide (HKeep.out _ hg)
                  clear hg
                  refine hK.out _ _ (HS1.out) (fun hHeld => ?_)
                  clear hK K
                  try simp only [Act.put]
                  try simp only [List.getElem_toArray]
                  try simp only [List.getElem_cons_succ]
                  try simp only [List.getElem_cons_zero]
                  try simp only [List.setIfInBounds_toArray]
                  try simp only [List.set_cons_succ, List.set_cons_zero]
                  refine wpAnyH_done (by kernel_rfl) ?_ _
                  clear hHeld
                  obtain ⟨G2, hd2⟩ := HQ.out.1.drew.step2 HG.out
                  have HD3 := hide hd2
                  clear hd2
                  go_wp2_with fail
                  exact ⟨⟨i + 1, _, G2, by go_num, by omega, hide ⟨by rw [HN.out.1]; exact HD3.out, by rw [HN.out.2, List.length_append, HQ.out.2, Nat.add_assoc]⟩⟩, by simp [intOf]; omega⟩
                · have hj2 : ((L[i]).job == (n : Int)) = false := by simpa using hj
                  have HN : Hid (ofJ n (L.take (i + 1)) = ofJ n (L.take i)) := hide (by rw [htk, ofJ_append, ofJ_no hj]; simp [ofJ])
                  clear hj htk hab q3 q4 q5
                  generalize (L[i]).job = job at *
                  go_wp2_with fail
                  exact ⟨⟨i + 1, U', G', by go_num, by omega, hide (by rw [HN.out]; exact HQ.out)⟩, by simp [intOf]; omega⟩
              · obtain rfl : i = L.length := by omega
                rw [List.take_length] at HQ
                obtain ⟨m, rfl⟩ : ∃ m, n = m + 1 := ⟨n - 1, by omega⟩
                have hf : Hid (Dj w b c s (run u (ofJ ((m + 1 : Nat) : Int) L)) T U' F G' wr ∧ (∀ j : Int, run u (ofJ ((m + 1 : Nat) : Int) L) j = if (m : Int) < j ∧ j ≤ 8 then run st0 (ofJ j L) j else (0, [])) ∧ U'.length + sumJ (fun j => tot st0 (ofJ j L)) m = sumJ (fun j => tot st0 (ofJ j L)) 8) := hide (by
                  have hu := HR.out.2.1
                  have hz : u ((m + 1 : Nat) : Int) = st0 ((m + 1 : Nat) : Int) := by rw [hu, if_neg (by omega)]; rfl
                  refine ⟨HQ.out.1, fun j => ?_, ?_⟩
                  · by_cases e : j = ((m + 1 : Nat) : Int)
                    · subst e
                      rw [run_loc _ L hz, if_pos (by omega)]
                    · rw [run_other e, hu]
                      by_cases e2 : (m : Int) < j ∧ j ≤ 8
                      · rw [if_pos (by omega), if_pos e2]
                      · rw [if_neg (by omega), if_neg e2]
                  · have h1 := HR.out.2.2
                    have h2 := HQ.out.2
                    rw [tot_loc _ L _ _ hz] at h2
                    have h3 : sumJ (fun j => tot st0 (ofJ j L)) (m + 1) = sumJ (fun j => tot st0 (ofJ j L)) m + tot st0 (ofJ ((m + 1 : Nat) : Int) L) := rfl
                    omega)
                clear HQ HR
                go_wp2_with fail
                exact ⟨⟨m, _, U', G', by go_num, by omega, hf⟩, by simp [intOf]⟩
          · obtain rfl : n = 0 := by omega
            have hsu : u = s := by
              funext j
              have hu := HR.out.2.1 j
              rw [hu, HSr.out, run_at j L st0 st0 rfl]
              by_cases e : ((0 : Nat) : Int) < j ∧ j ≤ 8
              · rw [if_pos e]
              · rw [if_neg e]
                rcases HR.out.1.one.st j with h | h
                · omega
                · rw [HSr.out, run_at j L st0 st0 rfl] at h
                  exact h.symm
            have hlen : U.length = T.length := by
              have h1 := HR.out.2.2
              have h2 : sumJ (fun j => tot st0 (ofJ j L)) 8 = tot st0 L := (tot_jobs L st0).symm
              have h3 := HTl.out
              have h4 : sumJ (fun j => tot st0 (ofJ j L)) 0 = 0 := rfl
              omega
            subst hsu
            have HD := hide HR.out.1
            have HLn := hide hlen
            clear HR hlen HSr HTl
            go_wp2_with fail
            refine HD.out.one.arts.mono ?_
            rintro e w5 ⟨yad, yg, ycap, Y, rfl, hRs, hLs, hP, hyg, hb5⟩
            have HD5 := hide (HD.out.below hb5)
            have HY := hide hRs
            have HLs := hide hLs
            have HP := hide hP
            clear hRs hLs hP hyg hb5 HD
            go_wp2_with fail
            refine HD5.out.two.arts.mono ?_
            rintro e w6 ⟨zad, zg, zcap, Z, rfl, hRs, hLs, hP, hyg, hb6⟩
            have HD6 := hide (HD5.out.below hb6)
            have HC := hide (sameArts_true (cap := ycap) (cap' := zcap) (HY.out.below hb6) hRs (ls_eq HLs.out hLs) (fun y hy => own_tr (own_keep (HP.out y hy) fun k e => hb6.block k ((HP.out y hy).lt k e).2)) (fun y hy => own_tr (hP y hy)) (by
              have := rise_len (a := 0) (c := 9) (by decide) HLs.out.rise fun x hx => by have := HLs.out.ok x hx; omega
              omega) (fun y hy => (HLs.out.ok y hy).2.2.2.2))
            clear hRs hLs hP hyg hb6 HD5 HY HLs HP
            go_wp2_with fail
            refine HC.out.mono ?_
            rintro e w7 ⟨rfl, q, hw7⟩
            have HD7 := hide (HD6.out.below (w2 := w7) (by rw [hw7]; exact below_drewN _ _))
            clear hw7 HC HD6
            go_wp2_with fail
            refine HD7.out.one.told.mono ?_
            rintro e w8 ⟨tv, F8, rfl, ht, hS8, hM8, hz8, hF8, hn8⟩
            obtain ⟨F9, hD8⟩ := HD7.out.step1 ⟨F8, hS8, hM8, fun k hk => .inl (hF8 k hk)⟩
            have HD8 := hide hD8
            obtain ⟨tad, tcap, rfl⟩ := own_slice ht
            clear ht hS8 hM8 hz8 hF8 hn8 hD8 HD7
            go_wp2_with fail
            refine HD8.out.two.told.mono ?_
            rintro e w9 ⟨uv, G8, rfl, ht, hS8, hM8, hz8, hF8, hn8⟩
            obtain ⟨G9, hD9⟩ := HD8.out.step2 ⟨G8, hS8, hM8, fun k hk => .inl (hF8 k hk)⟩
            have HD9 := hide hD9.low
            obtain ⟨uad, ucap, rfl⟩ := own_slice ht
            rw [HLn.out]
            clear ht hS8 hM8 hz8 hF8 hn8 hD9 HD8
            go_wp2_with fail
            go_ret
            exact ⟨by simp, HD9.out⟩
end Go.Proofs.Ytfmanndadjdpbaa.K
end
