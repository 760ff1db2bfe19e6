import Derived.Test.YtfmanndadjdpbaaMgAV
import Derived.Deep.DeepCutAuto

section
namespace Go.Proofs.Ytfmanndadjdpbaa.K
open Go.RowKit Go.MapKept Go.Shelf
set_option maxRecDepth 20000

theorem four_of16 {w : World} {ad : Option Addr} {ab ao : Nat} {L : List Oc} (h : Or w ad ab ao L) {i : Nat} (hi : i < L.length) : w.cell? ⟨ab, ao + i * 9 + 2, none⟩ = some (.int .i64 (L[i]).job) ∧ w.cell? ⟨ab, ao + i * 9 + 3, none⟩ = some (.int .i64 (L[i]).bdg) ∧ w.cell? ⟨ab, ao + i * 9 + 4, none⟩ = some (.int .i64 (L[i]).idx) ∧ w.cell? ⟨ab, ao + i * 9 + 5, none⟩ = some (.string (L[i]).tx) := by
  obtain ⟨_, _, c2, c3, c4, c5, _⟩ := h.nine hi
  exact ⟨c2, c3, c4, c5⟩
/-- the same memory -/
structure Sm (w w' : World) : Prop where
  heap : w'.heap = w.heap
  os : w'.os = w.os
  tape : w'.tape = w.tape
  output : w'.output = w.output
theorem Sm.below {w w' : World} (h : Sm w w') : Below w.heap.size w w' := ⟨h.os, h.tape, h.output, by rw [h.heap]; exact Nat.le_refl _, fun k _ => by rw [h.heap]⟩
theorem Sm.cell {w w' : World} (h : Sm w w') (p : Addr) : w'.cell? p = w.cell? p := World.cell?_of_block (by rw [h.heap])
theorem Sm.drewN {w w' : World} (h : Sm w w') (n : Nat) : Sm w (w'.drewN n) := ⟨h.heap, h.os, h.tape, h.output⟩
/-- numbers that are read -/
structure Ir (w : World) (ad : Option Addr) (ab ao : Nat) (L : List Int) : Prop where
  at_ : 0 < L.length → ad = some ⟨ab, ao, none⟩
  c : ∀ i (h : i < L.length), w.cell? ⟨ab, ao + i, none⟩ = some (.int .i64 L[i])
theorem Ir.lt {w : World} {ad : Option Addr} {ab ao : Nat} {L : List Int} (h : Ir w ad ab ao L) (h0 : 0 < L.length) : ab < w.heap.size := World.block_lt_of_cell? _ _ (h.c 0 h0)
theorem Ir.keep {w w' : World} {ad : Option Addr} {ab ao : Nat} {L : List Int} (h : Ir w ad ab ao L) (hk : 0 < L.length → w'.heap[ab]? = w.heap[ab]?) : Ir w' ad ab ao L :=
  ⟨h.at_, fun i hi => (World.cell?_of_block (hk (by omega))).trans (h.c i hi)⟩
set_option maxHeartbeats 20000000 in
theorem sinkAgain_walk {w : World} {ad bd : Option Addr} {cap ab ao dap bb bo : Nat} {L : List Oc} {A : List Int} (hO : Or w ad ab ao L) (hl : L.length ≤ 1599289640356) (hI : Ir w bd bb bo A) (hlA : A.length ≤ 17592186043904) :
    Calls Try.prog 3 #[.slice ad L.length cap, .slice bd A.length dap] w fun e w' => e = .returned (.bool true) ∧ Below w.heap.size w w' := by
  have HO := hide hO
  have HI := hide hI
  clear hO hI
  go_enter Try.func3, Try.ntmps3
  go_wp2_with fail
  refine (new_st w).mono ?_
  rintro e w0 ⟨b, F0, rfl, hS0, hB0, hL0⟩
  have HS0 := hide hS0
  have HB0 := hide hB0
  have HL0 := hide hL0
  clear hS0 hB0 hL0
  have hptr : ∀ (g : Nat) (w1 : World), (binOp .eql 24 (.pointer (some ⟨g, 0, none⟩)) (.pointer none)).run Try.prog w1 = .ok (.bool false) w1 := fun _ _ => by kernel_rfl
  go_wp2_with fail
  refine (awake_any w0).mono ?_
  rintro e w2 ⟨rfl, hb2⟩
  have HD2 : Hid (Sk w2 b st0 [] F0 ∧ (∀ k, F0 k → w.heap.size ≤ k) ∧ Below w.heap.size w w2 ∧ ([] : List Ev).length = 0) := hide ⟨HS0.out.below hb2, HL0.out, HB0.out.trans (hb2.mono HB0.out.size), rfl⟩
  clear hb2 HS0 HB0 HL0
  go_wp2_with fail
  clear hptr
  go_loopw [6] (fun t6 wr => ∃ (i : Nat) (T : List Ev) (F : Nat → Prop), t6 = .int .i64 (i : Int) ∧ i ≤ L.length ∧ Hid (Sk wr b (run st0 (L.take i)) T F ∧ (∀ k, F k → w.heap.size ≤ k) ∧ Below w.heap.size w wr ∧ T.length = tot st0 (L.take i))) (fun t6 _ => L.length - (intOf t6).toNat)
  case atStart => exact ⟨0, [], F0, rfl, Nat.zero_le _, HD2⟩
  case round =>
    clear HD2
    obtain ⟨i, T, F, rfl, hi, HR⟩ := hrel
    by_cases hil : i < L.length
    · as_aux_lemma =>
        have hab : ab < w.heap.size := HO.out.lt (by omega)
        have had := HO.out.at_ (by omega)
        subst had
        have HS0 := hide (four_of16 (HO.out.keep (w' := wr.drew) fun _ => HR.out.2.2.1.block ab hab) hil)
        have HSz : Hid (w.heap.size ≤ wr.drew.heap.size) := hide HR.out.2.2.1.size
        have hT : T.length ≤ 1600000000000 := by have h1 := HR.out.2.2.2; have h2 := tot_le (L.take i) st0; have h3 := List.length_take_le i L; omega
        have htk : L.take (i + 1) = L.take i ++ [L[i]] := by rw [List.take_succ_eq_append_getElem hil]
        have HN : Hid (run st0 (L.take (i + 1)) = nxt (run st0 (L.take i)) (L[i]).job (L[i]).bdg (L[i]).idx (L[i]).tx ∧ tot st0 (L.take (i + 1)) = tot st0 (L.take i) + (news (run st0 (L.take i)) (L[i]).job (L[i]).bdg (L[i]).idx (L[i]).tx).length) := hide ⟨by rw [htk, run_append]; rfl, by rw [htk, tot_append]; rfl⟩
        have HC := hide ((HR.out.1.keep (w' := wr.drew) fun _ _ => rfl).put hT (L[i]).job (L[i]).bdg (L[i]).idx (L[i]).tx)
        have HKeep : Hid (∀ V1, Gp F b (nxt (run st0 (L.take i)) (L[i]).job (L[i]).bdg (L[i]).idx (L[i]).tx) (T ++ news (run st0 (L.take i)) (L[i]).job (L[i]).bdg (L[i]).idx (L[i]).tx) wr.drew V1 → V1.cell? ⟨ab, ao + i * 9 + 2, none⟩ = some (.int .i64 (L[i]).job) ∧ V1.cell? ⟨ab, ao + i * 9 + 3, none⟩ = some (.int .i64 (L[i]).bdg) ∧ V1.cell? ⟨ab, ao + i * 9 + 4, none⟩ = some (.int .i64 (L[i]).idx) ∧ V1.cell? ⟨ab, ao + i * 9 + 5, none⟩ = some (.string (L[i]).tx)) := hide fun V1 hg => by
          obtain ⟨_, _, _, hd⟩ := hg.low HR.out.2.1 HSz.out
          exact four_of16 (HO.out.keep (w' := V1) fun _ => (hd.block ab hab).trans (HR.out.2.2.1.block ab hab)) hil
        clear hT htk hab
        generalize (L[i]).job = job at *
        generalize (L[i]).bdg = bdg at *
        generalize (L[i]).idx = idx at *
        generalize (L[i]).tx = tx at *
        generalize ans (run st0 (L.take i)) job bdg idx tx = pn at HC
        generalize adm (run st0 (L.take i)) job bdg idx tx = pa at HC
        generalize pe (run st0 (L.take i)) job bdg idx tx = pq at HC
        go_wp2_with fail
        refine wp_region_held_drew (S := fun w' => w'.cell? ⟨ab, ao + i * 9 + 2, none⟩ = some (.int .i64 job) ∧ w'.cell? ⟨ab, ao + i * 9 + 3, none⟩ = some (.int .i64 bdg) ∧ w'.cell? ⟨ab, ao + i * 9 + 4, none⟩ = some (.int .i64 idx) ∧ w'.cell? ⟨ab, ao + i * 9 + 5, none⟩ = some (.string tx)) (by kernel_rfl) (HS0.out) (fun hHeld => ?_)
        refine wpAnyH_take (i := 0) (v := .pointer (some ⟨b, 0, none⟩)) rfl (by kernel_rfl) (by kernel_rfl) (by kernel_rfl) (fun _ _ _ h => h) (Or.inl ⟨by kernel_rfl, fun w1 hSw => by clear hHeld; obtain ⟨k2, k3, k4, k5⟩ := hSw; go_simp⟩) hHeld ?_
        try simp only [Act.put]
        try simp only [List.getElem_toArray]
        try simp only [List.getElem_cons_succ]
        try simp only [List.getElem_cons_zero]
        try simp only [List.setIfInBounds_toArray]
        try simp only [List.set_cons_succ, List.set_cons_zero]
        refine wpAnyH_take (i := 1) (v := .slice (some ⟨ab, ao, none⟩) L.length cap) rfl (by kernel_rfl) (by kernel_rfl) (by kernel_rfl) (fun _ _ _ h => h) (Or.inl ⟨by kernel_rfl, fun w1 hSw => by clear hHeld; obtain ⟨k2, k3, k4, k5⟩ := hSw; go_simp⟩) hHeld ?_
        try simp only [Act.put]
        try simp only [List.getElem_toArray]
        try simp only [List.getElem_cons_succ]
        try simp only [List.getElem_cons_zero]
        try simp only [List.setIfInBounds_toArray]
        try simp only [List.set_cons_succ, List.set_cons_zero]
        refine wpAnyH_take (i := 2) (v := .int .i64 (i : Int)) rfl (by kernel_rfl) (by kernel_rfl) (by kernel_rfl) (fun _ _ _ h => h) (Or.inl ⟨by kernel_rfl, fun w1 hSw => by clear hHeld; obtain ⟨k2, k3, k4, k5⟩ := hSw; go_simp⟩) hHeld ?_
        try simp only [Act.put]
        try simp only [List.getElem_toArray]
        try simp only [List.getElem_cons_succ]
        try simp only [List.getElem_cons_zero]
        try simp only [List.setIfInBounds_toArray]
        try simp only [List.set_cons_succ, List.set_cons_zero]
        refine wpAnyH_take (i := 3) (v := .pointer (some ⟨ab, ao + i * 9, none⟩)) rfl (by kernel_rfl) (by kernel_rfl) (by kernel_rfl) (fun _ _ _ h => h) (Or.inl ⟨by kernel_rfl, fun w1 hSw => by clear hHeld; obtain ⟨k2, k3, k4, k5⟩ := hSw; go_simp⟩) hHeld ?_
        try simp only [Act.put]
        try simp only [List.getElem_toArray]
        try simp only [List.getElem_cons_succ]
        try simp only [List.getElem_cons_zero]
        try simp only [List.setIfInBounds_toArray]
        try simp only [List.set_cons_succ, List.set_cons_zero]
        refine wpAnyH_take (i := 4) (v := .pointer (some ⟨ab, ao + i * 9 + 2, none⟩)) rfl (by kernel_rfl) (by kernel_rfl) (by kernel_rfl) (fun _ _ _ h => h) (Or.inl ⟨by kernel_rfl, fun w1 hSw => by clear hHeld; obtain ⟨k2, k3, k4, k5⟩ := hSw; go_simp⟩) hHeld ?_
        try simp only [Act.put]
        try simp only [List.getElem_toArray]
        try simp only [List.getElem_cons_succ]
        try simp only [List.getElem_cons_zero]
        try simp only [List.setIfInBounds_toArray]
        try simp only [List.set_cons_succ, List.set_cons_zero]
        refine wpAnyH_take (i := 5) (v := .int .i64 job) rfl (by kernel_rfl) (by kernel_rfl) (by kernel_rfl) (fun _ _ _ h => h) (Or.inl ⟨by kernel_rfl, fun w1 hSw => by clear hHeld; obtain ⟨k2, k3, k4, k5⟩ := hSw; go_simp⟩) hHeld ?_
        try simp only [Act.put]
        try simp only [List.getElem_toArray]
        try simp only [List.getElem_cons_succ]
        try simp only [List.getElem_cons_zero]
        try simp only [List.setIfInBounds_toArray]
        try simp only [List.set_cons_succ, List.set_cons_zero]
        refine wpAnyH_take (i := 6) (v := .slice (some ⟨ab, ao, none⟩) L.length cap) rfl (by kernel_rfl) (by kernel_rfl) (by kernel_rfl) (fun _ _ _ h => h) (Or.inl ⟨by kernel_rfl, fun w1 hSw => by clear hHeld; obtain ⟨k2, k3, k4, k5⟩ := hSw; go_simp⟩) hHeld ?_
        try simp only [Act.put]
        try simp only [List.getElem_toArray]
        try simp only [List.getElem_cons_succ]
        try simp only [List.getElem_cons_zero]
        try simp only [List.setIfInBounds_toArray]
        try simp only [List.set_cons_succ, List.set_cons_zero]
        refine wpAnyH_take (i := 7) (v := .int .i64 (i : Int)) rfl (by kernel_rfl) (by kernel_rfl) (by kernel_rfl) (fun _ _ _ h => h) (Or.inl ⟨by kernel_rfl, fun w1 hSw => by clear hHeld; obtain ⟨k2, k3, k4, k5⟩ := hSw; go_simp⟩) hHeld ?_
        try simp only [Act.put]
        try simp only [List.getElem_toArray]
        try simp only [List.getElem_cons_succ]
        try simp only [List.getElem_cons_zero]
        try simp only [List.setIfInBounds_toArray]
        try simp only [List.set_cons_succ, List.set_cons_zero]
        refine wpAnyH_take (i := 8) (v := .pointer (some ⟨ab, ao + i * 9, none⟩)) rfl (by kernel_rfl) (by kernel_rfl) (by kernel_rfl) (fun _ _ _ h => h) (Or.inl ⟨by kernel_rfl, fun w1 hSw => by clear hHeld; obtain ⟨k2, k3, k4, k5⟩ := hSw; go_simp⟩) hHeld ?_
        try simp only [Act.put]
        try simp only [List.getElem_toArray]
        try simp only [List.getElem_cons_succ]
        try simp only [List.getElem_cons_zero]
        try simp only [List.setIfInBounds_toArray]
        try simp only [List.set_cons_succ, List.set_cons_zero]
        refine wpAnyH_take (i := 9) (v := .pointer (some ⟨ab, ao + i * 9 + 3, none⟩)) rfl (by kernel_rfl) (by kernel_rfl) (by kernel_rfl) (fun _ _ _ h => h) (Or.inl ⟨by kernel_rfl, fun w1 hSw => by clear hHeld; obtain ⟨k2, k3, k4, k5⟩ := hSw; go_simp⟩) hHeld ?_
        try simp only [Act.put]
        try simp only [List.getElem_toArray]
        try simp only [List.getElem_cons_succ]
        try simp only [List.getElem_cons_zero]
        try simp only [List.setIfInBounds_toArray]
        try simp only [List.set_cons_succ, List.set_cons_zero]
        refine wpAnyH_take (i := 10) (v := .int .i64 bdg) rfl (by kernel_rfl) (by kernel_rfl) (by kernel_rfl) (fun _ _ _ h => h) (Or.inl ⟨by kernel_rfl, fun w1 hSw => by clear hHeld; obtain ⟨k2, k3, k4, k5⟩ := hSw; go_simp⟩) hHeld ?_
        try simp only [Act.put]
        try simp only [List.getElem_toArray]
        try simp only [List.getElem_cons_succ]
        try simp only [List.getElem_cons_zero]
        try simp only [List.setIfInBounds_toArray]
        try simp only [List.set_cons_succ, List.set_cons_zero]
        refine wpAnyH_take (i := 11) (v := .slice (some ⟨ab, ao, none⟩) L.length cap) rfl (by kernel_rfl) (by kernel_rfl) (by kernel_rfl) (fun _ _ _ h => h) (Or.inl ⟨by kernel_rfl, fun w1 hSw => by clear hHeld; obtain ⟨k2, k3, k4, k5⟩ := hSw; go_simp⟩) hHeld ?_
        try simp only [Act.put]
        try simp only [List.getElem_toArray]
        try simp only [List.getElem_cons_succ]
        try simp only [List.getElem_cons_zero]
        try simp only [List.setIfInBounds_toArray]
        try simp only [List.set_cons_succ, List.set_cons_zero]
        refine wpAnyH_take (i := 12) (v := .int .i64 (i : Int)) rfl (by kernel_rfl) (by kernel_rfl) (by kernel_rfl) (fun _ _ _ h => h) (Or.inl ⟨by kernel_rfl, fun w1 hSw => by clear hHeld; obtain ⟨k2, k3, k4, k5⟩ := hSw; go_simp⟩) hHeld ?_
        try simp only [Act.put]
        try simp only [List.getElem_toArray]
        try simp only [List.getElem_cons_succ]
        try simp only [List.getElem_cons_zero]
        try simp only [List.setIfInBounds_toArray]
        try simp only [List.set_cons_succ, List.set_cons_zero]
        refine wpAnyH_take (i := 13) (v := .pointer (some ⟨ab, ao + i * 9, none⟩)) rfl (by kernel_rfl) (by kernel_rfl) (by kernel_rfl) (fun _ _ _ h => h) (Or.inl ⟨by kernel_rfl, fun w1 hSw => by clear hHeld; obtain ⟨k2, k3, k4, k5⟩ := hSw; go_simp⟩) hHeld ?_
        try simp only [Act.put]
        try simp only [List.getElem_toArray]
        try simp only [List.getElem_cons_succ]
        try simp only [List.getElem_cons_zero]
        try simp only [List.setIfInBounds_toArray]
        try simp only [List.set_cons_succ, List.set_cons_zero]
        refine wpAnyH_take (i := 14) (v := .pointer (some ⟨ab, ao + i * 9 + 4, none⟩)) rfl (by kernel_rfl) (by kernel_rfl) (by kernel_rfl) (fun _ _ _ h => h) (Or.inl ⟨by kernel_rfl, fun w1 hSw => by clear hHeld; obtain ⟨k2, k3, k4, k5⟩ := hSw; go_simp⟩) hHeld ?_
        try simp only [Act.put]
        try simp only [List.getElem_toArray]
        try simp only [List.getElem_cons_succ]
        try simp only [List.getElem_cons_zero]
        try simp only [List.setIfInBounds_toArray]
        try simp only [List.set_cons_succ, List.set_cons_zero]
        refine wpAnyH_take (i := 15) (v := .int .i64 idx) rfl (by kernel_rfl) (by kernel_rfl) (by kernel_rfl) (fun _ _ _ h => h) (Or.inl ⟨by kernel_rfl, fun w1 hSw => by clear hHeld; obtain ⟨k2, k3, k4, k5⟩ := hSw; go_simp⟩) hHeld ?_
        try simp only [Act.put]
        try simp only [List.getElem_toArray]
        try simp only [List.getElem_cons_succ]
        try simp only [List.getElem_cons_zero]
        try simp only [List.setIfInBounds_toArray]
        try simp only [List.set_cons_succ, List.set_cons_zero]
        refine wpAnyH_take (i := 16) (v := .slice (some ⟨ab, ao, none⟩) L.length cap) rfl (by kernel_rfl) (by kernel_rfl) (by kernel_rfl) (fun _ _ _ h => h) (Or.inl ⟨by kernel_rfl, fun w1 hSw => by clear hHeld; obtain ⟨k2, k3, k4, k5⟩ := hSw; go_simp⟩) hHeld ?_
        try simp only [Act.put]
        try simp only [List.getElem_toArray]
        try simp only [List.getElem_cons_succ]
        try simp only [List.getElem_cons_zero]
        try simp only [List.setIfInBounds_toArray]
        try simp only [List.set_cons_succ, List.set_cons_zero]
        refine wpAnyH_take (i := 17) (v := .int .i64 (i : Int)) rfl (by kernel_rfl) (by kernel_rfl) (by kernel_rfl) (fun _ _ _ h => h) (Or.inl ⟨by kernel_rfl, fun w1 hSw => by clear hHeld; obtain ⟨k2, k3, k4, k5⟩ := hSw; go_simp⟩) hHeld ?_
        try simp only [Act.put]
        try simp only [List.getElem_toArray]
        try simp only [List.getElem_cons_succ]
        try simp only [List.getElem_cons_zero]
        try simp only [List.setIfInBounds_toArray]
        try simp only [List.set_cons_succ, List.set_cons_zero]
        refine wpAnyH_take (i := 18) (v := .pointer (some ⟨ab, ao + i * 9, none⟩)) rfl (by kernel_rfl) (by kernel_rfl) (by kernel_rfl) (fun _ _ _ h => h) (Or.inl ⟨by kernel_rfl, fun w1 hSw => by clear hHeld; obtain ⟨k2, k3, k4, k5⟩ := hSw; go_simp⟩) hHeld ?_
        try simp only [Act.put]
        try simp only [List.getElem_toArray]
        try simp only [List.getElem_cons_succ]
        try simp only [List.getElem_cons_zero]
        try simp only [List.setIfInBounds_toArray]
        try simp only [List.set_cons_succ, List.set_cons_zero]
        refine wpAnyH_take (i := 19) (v := .pointer (some ⟨ab, ao + i * 9 + 5, none⟩)) rfl (by kernel_rfl) (by kernel_rfl) (by kernel_rfl) (fun _ _ _ h => h) (Or.inl ⟨by kernel_rfl, fun w1 hSw => by clear hHeld; obtain ⟨k2, k3, k4, k5⟩ := hSw; go_simp⟩) hHeld ?_
        try simp only [Act.put]
        try simp only [List.getElem_toArray]
        try simp only [List.getElem_cons_succ]
        try simp only [List.getElem_cons_zero]
        try simp only [List.setIfInBounds_toArray]
        try simp only [List.set_cons_succ, List.set_cons_zero]
        refine wpAnyH_take (i := 20) (v := .string tx) rfl (by kernel_rfl) (by kernel_rfl) (by kernel_rfl) (fun _ _ _ h => h) (Or.inl ⟨by kernel_rfl, fun w1 hSw => by clear hHeld; obtain ⟨k2, k3, k4, k5⟩ := hSw; go_simp⟩) hHeld ?_
        try simp only [Act.put]
        try simp only [List.getElem_toArray]
        try simp only [List.getElem_cons_succ]
        try simp only [List.getElem_cons_zero]
        try simp only [List.setIfInBounds_toArray]
        try simp only [List.set_cons_succ, List.set_cons_zero]
        refine wpAnyH_ready (rs := [21]) (by kernel_rfl) (by simp) ?_
        refine AllReadyH.cons rfl (fun K hK => ?_) AllReadyH.nil
        go_simp
        refine HC.out.mono ?_
        rintro e V1 ⟨rfl, hg⟩
        have HG := hide hg
        have HS1 := hide (HKeep.out _ hg)
        clear hg
        refine hK.out _ _ (HS1.out) (fun hHeld => ?_)
        clear hK K
        try simp only [Act.put]
        try simp only [List.getElem_toArray]
        try simp only [List.getElem_cons_succ]
        try simp only [List.getElem_cons_zero]
        try simp only [List.setIfInBounds_toArray]
        try simp only [List.set_cons_succ, List.set_cons_zero]
        refine wpAnyH_done (by kernel_rfl) ?_ _
        clear hHeld
        obtain ⟨F2, hs2, hl2, hb2⟩ := HG.out.low HR.out.2.1 HSz.out
        have HD3 := hide hs2
        have HL3 := hide hl2
        have HB3 := hide (HR.out.2.2.1.drew.trans hb2)
        clear hs2 hl2 hb2
        go_wp2_with fail
        exact ⟨⟨i + 1, _, F2, by go_num, by omega, hide ⟨by rw [HN.out.1]; exact HD3.out, HL3.out, HB3.out, by rw [HN.out.2, List.length_append, HR.out.2.2.2]⟩⟩, by simp [intOf]; omega⟩
    · as_aux_lemma =>
        obtain rfl : i = L.length := by omega
        generalize run st0 (L.take L.length) = s at HR
        have HD := hide HR.out.1
        have HLo := hide HR.out.2.1
        have HLw := hide HR.out.2.2.1
        clear HR
        go_wp2_with fail
        refine HD.out.arts.mono ?_
        rintro e w3 ⟨yad, yg, ycap, Y, rfl, hRs, hLs, hP, hyg, hb3⟩
        have HLs := hide hLs
        have HX := hide (And.intro hRs (And.intro hP (And.intro hyg hb3)))
        have HT := hide (HD.out.below hb3).told
        clear hRs hLs hP hyg hb3
        go_wp2_with fail
        refine HT.out.mono ?_
        rintro e w4 ⟨tv, F4, rfl, ht, hS4, hM4, hz4, hF4, hn4⟩
        have HA0 := hide (Ag.start HD.out HLo.out HLw.out HX.out.2.2.2 HX.out.1 HX.out.2.1 HX.out.2.2.1 hS4 hM4 hF4)
        have hY8 : Y.length ≤ 8 := by
          have := rise_len (a := 0) (c := 9) (by decide) HLs.out.rise fun x hx => by have := HLs.out.ok x hx; omega
          omega
        clear ht hS4 hM4 hz4 hF4 hn4 HT HD HX HLo HLw
        go_wp2_with fail
        go_loopw [8, 9, 10, 11, 12] (fun t8 _ _ _ _ wr => ∃ (i : Nat) (F : Nat → Prop), t8 = .int .i64 (i : Int) ∧ i ≤ A.length ∧ Hid (Ag w b s yad yg Y F wr)) (fun t8 _ _ _ _ _ => A.length - (intOf t8).toNat)
        case atStart => exact ⟨0, F4, rfl, Nat.zero_le _, HA0⟩
        case round =>
          clear HA0
          obtain ⟨i, F, rfl, hi, HR⟩ := hrel
          by_cases hgo : i < A.length ∧ 0 < L.length
          · obtain ⟨hil, hL0⟩ := hgo
            have hbb : bb < w.heap.size := HI.out.lt (by omega)
            have hbd := HI.out.at_ (by omega)
            subst hbd
            have hab : ab < w.heap.size := HO.out.lt hL0
            have had := HO.out.at_ hL0
            subst had
            have q0 := (HI.out.keep (w' := wr) fun _ => HR.out.low.block bb hbb).c i hil
            generalize A[i] = z at *
            have ht1 : z.tmod (L.length : Int) < (L.length : Int) := Int.tmod_lt_of_pos _ (by omega)
            have ht2 : -(L.length : Int) < z.tmod (L.length : Int) := Int.lt_tmod_of_pos _ (by omega)
            have hL0i : (L.length : Int) ≠ 0 := by omega
            have hL1i : (L.length : Int) ≠ -1 := by omega
            go_upto_region 14 with fail
            generalize z.tmod (L.length : Int) = t at *
            go_upto_if 71 with fail
            go_cut [9] (fun u9 wc => ∃ k : Nat, u9 = .int .i64 (k : Int) ∧ k < L.length ∧ wc = wr)
            case first =>
              by_cases h0 : t < 0
              · go_wp2_with fail
                go_meet
                case rel => exact ⟨(t + (L.length : Int)).toNat, by congr 1; omega, by omega, rfl⟩
              · go_wp2_with fail
                go_meet
                case rel => exact ⟨t.toNat, by congr 1; omega, by omega, rfl⟩
            case rest =>
              obtain ⟨k, rfl, hk, hwc⟩ := hcut
              subst hwc
              clear ht1 ht2 hL0i hL1i q0
              obtain ⟨c0, c1, c2, c3, c4, c5, c6, c7, c8⟩ := (HO.out.keep (w' := wc) fun _ => HR.out.low.block ab hab).nine hk
              generalize L[k] = o at *
              obtain ⟨k9, on, job, bdg, idx, tx, da, node, life⟩ := o
              simp only at c0 c1 c2 c3 c4 c5 c6 c7 c8
              have HR1 := hide (HR.out.below (below_alloc wc (.cells #[.int .i64 k9, .int .i64 on, .int .i64 job, .int .i64 bdg, .int .i64 idx, .string tx, .string da, .int .i64 node, .int .i64 life] 33)))
              have hB5 : (wc.alloc (.cells #[.int .i64 k9, .int .i64 on, .int .i64 job, .int .i64 bdg, .int .i64 idx, .string tx, .string da, .int .i64 node, .int .i64 life] 33)).heap[wc.heap.size]? = some (Obj.cells #[.int .i64 k9, .int .i64 on, .int .i64 job, .int .i64 bdg, .int .i64 idx, .string tx, .string da, .int .i64 node, .int .i64 life] 33 (0, 0)) := heap_alloc_new wc _
              have p2 : (wc.alloc (.cells #[.int .i64 k9, .int .i64 on, .int .i64 job, .int .i64 bdg, .int .i64 idx, .string tx, .string da, .int .i64 node, .int .i64 life] 33)).cell? ⟨wc.heap.size, 2, none⟩ = some (.int .i64 job) := (cell_of_row _ _ 2 _ _ _ hB5).trans rfl
              have p3 : (wc.alloc (.cells #[.int .i64 k9, .int .i64 on, .int .i64 job, .int .i64 bdg, .int .i64 idx, .string tx, .string da, .int .i64 node, .int .i64 life] 33)).cell? ⟨wc.heap.size, 3, none⟩ = some (.int .i64 bdg) := (cell_of_row _ _ 3 _ _ _ hB5).trans rfl
              have p4 : (wc.alloc (.cells #[.int .i64 k9, .int .i64 on, .int .i64 job, .int .i64 bdg, .int .i64 idx, .string tx, .string da, .int .i64 node, .int .i64 life] 33)).cell? ⟨wc.heap.size, 4, none⟩ = some (.int .i64 idx) := (cell_of_row _ _ 4 _ _ _ hB5).trans rfl
              have p5 : (wc.alloc (.cells #[.int .i64 k9, .int .i64 on, .int .i64 job, .int .i64 bdg, .int .i64 idx, .string tx, .string da, .int .i64 node, .int .i64 life] 33)).cell? ⟨wc.heap.size, 5, none⟩ = some (.string tx) := (cell_of_row _ _ 5 _ _ _ hB5).trans rfl
              have HP2 := hide p2
              have HP3 := hide p3
              have HP4 := hide p4
              have HP5 := hide p5
              clear hB5 p2 p3 p4 p5
              go_wp2_with fail
              generalize wc.alloc (.cells #[.int .i64 k9, .int .i64 on, .int .i64 job, .int .i64 bdg, .int .i64 idx, .string tx, .string da, .int .i64 node, .int .i64 life] 33) = w5 at *
              generalize wc.heap.size = ob at *
              go_loopw [11, 12] (fun t11 t12 wx => ∃ (n : Int) (jj : Nat), t11 = .int .i64 n ∧ t12 = .int .i64 (jj : Int) ∧ jj ≤ Y.length ∧ 0 ≤ n ∧ n ≤ 100 ∧ Hid (((∀ q (h : q < Y.length), q < jj → (Y[q]).job ≠ job) ∧ n = 0) ∨ ((∃ q, ∃ h : q < Y.length, q < jj ∧ (Y[q]).job = job) ∧ n = nA s job bdg)) ∧ Hid (Sm w5 wx)) (fun _ t12 _ => Y.length - (intOf t12).toNat)
              case atStart => exact ⟨0, 0, rfl, rfl, Nat.zero_le _, by omega, by omega, .inl ⟨fun q h h2 => absurd h2 (by omega), rfl⟩, ⟨rfl, rfl, rfl, rfl⟩⟩
              case round =>
                obtain ⟨n, jj, rfl, rfl, hjY, hn0, hn1, HQ, HSm⟩ := hrel
                have p2 := (HSm.out.cell _).trans HP2.out
                have p3 := (HSm.out.cell _).trans HP3.out
                have p4 := (HSm.out.cell _).trans HP4.out
                have p5 := (HSm.out.cell _).trans HP5.out
                by_cases hjl : jj < Y.length
                · obtain ⟨b0, b1, b2⟩ := HR1.out.rs.three0 hjl
                  have b0 := (HSm.out.cell _).trans b0
                  have b1 := (HSm.out.cell _).trans b1
                  have b2 := (HSm.out.cell _).trans b2
                  have hyd := HR1.out.rs.at_ (by omega)
                  have h16 := (HLs.out.ok _ (List.getElem_mem hjl)).2.2.2.2
                  have hnr := nA_row HLs.out (List.getElem_mem hjl) bdg
                  subst hyd
                  dsimp only [Az.sl] at b2
                  by_cases hj : (Y[jj]).job = job
                  · have hin : n = 0 := by
                      rcases HQ.out with h | ⟨⟨q, hq, hqj, hqe⟩, _⟩
                      · exact h.2
                      · have := List.pairwise_iff_getElem.1 HLs.out.rise q jj hq hjl hqj
                        omega
                    subst hin
                    rw [hj] at b0 hnr
                    have HM : Hid (∃ q, ∃ h : q < Y.length, q < jj + 1 ∧ (Y[q]).job = job) := hide ⟨jj, hjl, by omega, hj⟩
                    clear HQ hj
                    by_cases e1 : (Y[jj]).bdg = bdg
                    · rw [if_pos e1] at hnr
                      rw [e1] at b1
                      have HQ2 : Hid (((∀ q (h : q < Y.length), q < jj + 1 → (Y[q]).job ≠ job) ∧ (1 + ((Y[jj]).pcs.length : Int)) = 0) ∨ ((∃ q, ∃ h : q < Y.length, q < jj + 1 ∧ (Y[q]).job = job) ∧ (1 + ((Y[jj]).pcs.length : Int)) = nA s job bdg)) := hide (.inr ⟨HM.out, by omega⟩)
                      clear HM hnr e1
                      generalize (Y[jj]).pcs = yp at *
                      generalize (Y[jj]).ad = yd at *
                      generalize (Y[jj]).cap = yc at *
                      go_wp2_with fail
                      go_quiet (fail)
                      go_wp2_with fail
                      go_quiet (fail)
                      go_wp2_with fail
                      exact ⟨⟨1 + (yp.length : Int), jj + 1, rfl, by go_num, by omega, by omega, by omega, HQ2, hide (HSm.out.drewN _)⟩, by simp [intOf]; omega⟩
                    · have e1' : ((Y[jj]).bdg == bdg) = false := by simpa using e1
                      rw [if_neg e1] at hnr
                      by_cases e2 : bdg < (Y[jj]).bdg
                      · rw [if_pos e2] at hnr
                        have e2' : decide (bdg < (Y[jj]).bdg) = true := by simpa using e2
                        have HQ2 : Hid (((∀ q (h : q < Y.length), q < jj + 1 → (Y[q]).job ≠ job) ∧ (100 : Int) = 0) ∨ ((∃ q, ∃ h : q < Y.length, q < jj + 1 ∧ (Y[q]).job = job) ∧ (100 : Int) = nA s job bdg)) := hide (.inr ⟨HM.out, hnr.symm⟩)
                        clear HM hnr e1 e2 b2
                        generalize (Y[jj]).bdg = yb at *
                        go_wp2_with fail
                        go_quiet (fail)
                        go_wp2_with fail
                        go_quiet (fail)
                        go_wp2_with fail
                        exact ⟨⟨100, jj + 1, rfl, by go_num, by omega, by omega, by omega, HQ2, hide (HSm.out.drewN _)⟩, by simp [intOf]; omega⟩
                      · rw [if_neg e2] at hnr
                        have e2' : decide (bdg < (Y[jj]).bdg) = false := by simpa using e2
                        have HNr := hide hnr.symm
                        clear hnr e1 e2 b2
                        generalize (Y[jj]).bdg = yb at *
                        go_wp2_with fail
                        go_quiet (fail)
                        go_wp2_with fail
                        go_quiet (fail)
                        go_wp2_with fail
                        exact ⟨⟨0, jj + 1, rfl, by go_num, by omega, by omega, by omega, hide (.inr ⟨HM.out, HNr.out⟩), hide (HSm.out.drewN _)⟩, by simp [intOf]; omega⟩
                  · have hj' : ((Y[jj]).job == job) = false := by simpa using hj
                    have HQ2 : Hid (((∀ q (h : q < Y.length), q < jj + 1 → (Y[q]).job ≠ job) ∧ n = 0) ∨ ((∃ q, ∃ h : q < Y.length, q < jj + 1 ∧ (Y[q]).job = job) ∧ n = nA s job bdg)) := hide (by
                      rcases HQ.out with ⟨h1, h2⟩ | ⟨⟨q, hq, hqj, hqe⟩, h2⟩
                      · refine .inl ⟨fun q h h3 => ?_, h2⟩
                        by_cases e : q = jj
                        · subst e; exact hj
                        · exact h1 q h (by omega)
                      · exact .inr ⟨⟨q, hq, by omega, hqe⟩, h2⟩)
                    clear HQ hj hnr b1 b2
                    generalize (Y[jj]).job = yj at *
                    go_wp2_with fail
                    go_quiet (fail)
                    go_wp2_with fail
                    go_quiet (fail)
                    go_wp2_with fail
                    exact ⟨⟨n, jj + 1, rfl, by go_num, by omega, by omega, by omega, HQ2, hide (HSm.out.drewN _)⟩, by simp [intOf]; omega⟩
                · obtain rfl : jj = Y.length := by omega
                  have hnn : n = nA s job bdg := by
                    rcases HQ.out with ⟨h1, h2⟩ | ⟨_, h2⟩
                    · rw [h2, nA_none HLs.out (fun y hy => by obtain ⟨q, hq, rfl⟩ := List.getElem_of_mem hy; exact h1 q hq hq)]
                    · exact h2
                  have HN := hide hnn
                  have HA5 := hide (HR1.out.below HSm.out.below)
                  have HC := hide (HA5.out.sk.put (by simp) job bdg idx tx)
                  clear HQ hnn
                  by_cases hlt : idx < n
                  · have hd1 : decide (n ≤ idx) = false := by simp; omega
                    have HE := hide (again_same (t := tx) (show idx < nA s job bdg by rw [← HN.out]; exact hlt))
                    clear hlt
                    go_wp2_with fail
                    refine HC.out.mono ?_
                    rintro e w6 ⟨rfl, hg⟩
                    rw [HE.out.1, HE.out.2, List.append_nil] at hg
                    obtain ⟨F6, hA6⟩ := HA5.out.step hg
                    have HA6 := hide hA6
                    clear hg hA6 HC
                    go_wp2_with fail
                    exact ⟨⟨i + 1, F6, by go_num, by omega, HA6⟩, by simp [intOf]; omega⟩
                  · have hd1 : decide (n ≤ idx) = true := by simp; omega
                    clear hlt HC
                    go_wp2_with fail
                    exact ⟨⟨i + 1, F, by go_num, by omega, HA5⟩, by simp [intOf]; omega⟩
          · by_cases hil : i < A.length
            · have hL9 : L = [] := List.eq_nil_of_length_eq_zero (by omega)
              subst hL9
              simp only [List.length_nil]
              clear hgo
              go_wp2_with fail
              refine HR.out.sk.arts.mono ?_
              rintro e w5 ⟨zad, zg, zcap, Z, rfl, hRs, hLz, hP, hyg, hb5⟩
              have HA5 := hide (HR.out.below hb5)
              have HC := hide (sameArts_true (cap := ycap) (cap' := zcap) HA5.out.rs hRs (ls_eq HLs.out hLz) (fun y hy => own_tr (HA5.out.row y hy)) (fun y hy => own_tr (hP y hy)) hY8 (fun y hy => (HLs.out.ok y hy).2.2.2.2))
              clear hRs hLz hP hyg hb5 HR
              go_wp2_with fail
              refine HC.out.mono ?_
              rintro e w6 ⟨rfl, q, hw6⟩
              have HA6 := hide (HA5.out.below (w2 := w6) (by rw [hw6]; exact below_drewN _ _))
              clear hw6 HC HA5
              go_wp2_with fail
              refine HA6.out.sk.told.mono ?_
              rintro e w7 ⟨tv, F7, rfl, ht, hS7, hM7, hz7, hF7, hn7⟩
              obtain ⟨F8, hA8⟩ := HA6.out.step ⟨F7, hS7, hM7, fun k hk => .inl (hF7 k hk)⟩
              have HL8 := hide hA8.low
              obtain ⟨tad, tcap, rfl⟩ := own_slice ht
              clear ht hS7 hM7 hz7 hF7 hn7 hA8 HA6
              simp only [List.length_nil]
              go_wp2_with fail
              go_ret
              exact ⟨by simp, HL8.out⟩
            · obtain rfl : i = A.length := by omega
              clear hgo
              go_wp2_with fail
              refine HR.out.sk.arts.mono ?_
              rintro e w5 ⟨zad, zg, zcap, Z, rfl, hRs, hLz, hP, hyg, hb5⟩
              have HA5 := hide (HR.out.below hb5)
              have HC := hide (sameArts_true (cap := ycap) (cap' := zcap) HA5.out.rs hRs (ls_eq HLs.out hLz) (fun y hy => own_tr (HA5.out.row y hy)) (fun y hy => own_tr (hP y hy)) hY8 (fun y hy => (HLs.out.ok y hy).2.2.2.2))
              clear hRs hLz hP hyg hb5 HR
              go_wp2_with fail
              refine HC.out.mono ?_
              rintro e w6 ⟨rfl, q, hw6⟩
              have HA6 := hide (HA5.out.below (w2 := w6) (by rw [hw6]; exact below_drewN _ _))
              clear hw6 HC HA5
              go_wp2_with fail
              refine HA6.out.sk.told.mono ?_
              rintro e w7 ⟨tv, F7, rfl, ht, hS7, hM7, hz7, hF7, hn7⟩
              obtain ⟨F8, hA8⟩ := HA6.out.step ⟨F7, hS7, hM7, fun k hk => .inl (hF7 k hk)⟩
              have HL8 := hide hA8.low
              obtain ⟨tad, tcap, rfl⟩ := own_slice ht
              clear ht hS7 hM7 hz7 hF7 hn7 hA8 HA6
              simp only [List.length_nil]
              go_wp2_with fail
              go_ret
              exact ⟨by simp, HL8.out⟩
end Go.Proofs.Ytfmanndadjdpbaa.K
end

section
namespace Go.Proofs.Ytfmanndadjdpbaa.K
open Go.ChangeShapes Go.WideShapes Go.ChangeAt Go.RowKit Go.Deep

section
variable {H : Type} {enc : TypeId × Value → H}
/-- a slice of whole numbers, opened, its length by weights -/
theorem ints_wt {W : World} {n : Nat} {v : Value} {x : DataW H × List MemPlace} (h : DataW.trod enc Try.prog W 0 (fun _ => true) true n 23 [v] = some x) (hw : ∀ k ∈ x.1.weights Try.prog 23, k ≤ reachBytes) :
    ∃ (ad : Option Addr) (cap ab ao : Nat) (l : List Int), v = .slice ad l.length cap ∧ Ir W ad ab ao l ∧ l.length ≤ 17592186043904 := by
  rcases open_slice (cs := [v]) Try.underlying23 h with ⟨hc, _⟩ | ⟨a, len, cap, m, k, E, Pl, hc, _, hl, hm, hmm, hx, hall⟩
  · simp only [List.cons.injEq, and_true] at hc
    exact ⟨none, 0, 0, 0, [], hc, ⟨fun h => absurd h (by simp), fun i h => absurd h (by simp)⟩, by simp⟩
  · simp only [List.cons.injEq, and_true] at hc
    simp only [if_true] at hmm
    subst hmm
    have hle : len ≤ 17592186043904 := by
      have := hw (len * 8 + (m - len) * 8) (by
        rw [hx]; simp only [DataW.weights, Try.underlying23, Try.bytesI]
        simp only [List.length_map, List.length_range, List.mem_cons]
        left; rw [Nat.add_mul])
      simp only [reachBytes] at this; omega
    have each : ∀ i, i < m → ∃ q : Int, W.cell? (a.add i) = some (.int .i64 q) := by
      intro i hi
      obtain ⟨cs', g1, g2⟩ := hall i hi
      rw [Try.cellsI] at g1
      obtain ⟨_, hlen, hcell⟩ := World.cells?_some g1
      obtain ⟨s2, e2, _, _⟩ := DataW.trod_int Try.underlying3 g2
      subst e2
      have k0 := hcell 0 (by omega)
      rw [add_add] at k0
      exact ⟨s2, by simpa using k0⟩
    obtain ⟨q, hq⟩ := choose_lt each
    refine ⟨some a, m, a.block, a.off, (List.range len).map q, by rw [range_len]; exact hc, ⟨fun h => ?_, fun i hi => ?_⟩, by rw [range_len]; exact hle⟩
    · rw [range_len] at h
      obtain ⟨ab, ao, spot⟩ := a
      have hspot : spot = none := by simpa [Addr.add] using World.cell?_spot (hq 0 (by omega))
      rw [hspot]
    · have hi' := hi
      rw [range_len] at hi'
      rw [range_get]
      have := hq i (by omega)
      obtain ⟨ab, ao, spot⟩ := a
      have hspot : spot = none := by simpa [Addr.add] using World.cell?_spot (hq 0 (by omega))
      subst hspot
      rwa [Addr.add_lit] at this
end
end Go.Proofs.Ytfmanndadjdpbaa.K
end
