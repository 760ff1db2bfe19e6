import Derived.Test.YteckkaapibbpcaaChC
namespace Go.Proofs.Yteckkaapibbpcaa
open Go.RowKit

theorem two0 {w : World} {B : Nat} {u v : Value} {t : TypeId} (h : w.heap[B]? = some (.cells #[u, v] t (0, 0))) : w.cell? ⟨B, 0, none⟩ = some u := by simp [World.cell?, h]
theorem two1 {w : World} {B : Nat} {u v : Value} {t : TypeId} (h : w.heap[B]? = some (.cells #[u, v] t (0, 0))) : w.cell? ⟨B, 1, none⟩ = some v := by simp [World.cell?, h]
theorem twoz {w : World} {B : Nat} {u v : Value} {t : TypeId} (h : w.heap[B]? = some (.cells #[u, v] t (0, 0))) (k : Nat) : w.frozen? ⟨B, k, none⟩ = false := by simp [World.frozen?, h]
theorem two_set {w : World} {B : Nat} {u v : Value} {t : TypeId} (h : w.heap[B]? = some (.cells #[u, v] t (0, 0))) (x y : Value) : ((w.setCell ⟨B, 0, none⟩ x).setCell ⟨B, 1, none⟩ y).heap[B]? = some (.cells #[x, y] t (0, 0)) :=
  heap_set_self _ B 1 y _ _ _ (heap_set_self w B 0 x _ _ _ h)
theorem Sb.setO {w : World} {b : Nat} {s : Sn} {ad : Option Addr} {cap X o : Nat} (h : Sb w b s ad cap X o) {B : Nat} (hn : X < B ∧ b < B ∨ b < B ∧ cap = 0) (i j : Nat) (x y : Value) : Sb ((w.setCell ⟨B, i, none⟩ x).setCell ⟨B, j, none⟩ y) b s ad cap X o := by
  have e : ∀ k, k < B → ((w.setCell ⟨B, i, none⟩ x).setCell ⟨B, j, none⟩ y).heap[k]? = w.heap[k]? := fun k hk => (Below.heap_setCell _ ⟨B, j, none⟩ _ k (Nat.ne_of_lt hk)).trans (Below.heap_setCell _ ⟨B, i, none⟩ _ k (Nat.ne_of_lt hk))
  exact ⟨(e b (by omega)).trans h.cb, h.rs.keep fun h0 => e X (by omega)⟩
theorem below_set2 {B n : Nat} {w w' : World} (h : Below n w w') (hn : n ≤ B) (i j : Nat) (x y : Value) : Below n w ((w'.setCell ⟨B, i, none⟩ x).setCell ⟨B, j, none⟩ y) :=
  ⟨h.os, h.tape, h.output, by rw [setCell_size, setCell_size]; exact h.size, fun k hk => (Below.heap_setCell _ ⟨B, j, none⟩ _ k (by show k ≠ B; omega)).trans ((Below.heap_setCell _ ⟨B, i, none⟩ _ k (by show k ≠ B; omega)).trans (h.block k hk))⟩
theorem results_c {fn : Func} {p : Tmp} {ty : TypeId} (h : fn.results = #[.cell p ty]) (tmps : Array Value) (P : Program) (w : World) :
    (results fn tmps).run P w = ((asAddr (tmps.getD p undef)).run P w).andThen fun a w₁ => (loadVar ty a).run P w₁ := by
  simp only [results, h]
  simp [Sem.run_bind, Result.andThen]
theorem SS.dr {w : World} {b : Nat} {s : Sn} {ad : Option Addr} {cap X o : Nat} {w0 V1 : World} {B m : Nat} (h : Sb w b s ad cap X o ∧ Below w0.heap.size w0 w ∧ ∃ u v, w.heap[B]? = some (.cells #[u, v] 51 (0, 0))) (e : V1 = w.drewN m) : Sb V1 b s ad cap X o ∧ Below w0.heap.size w0 V1 ∧ ∃ u v, V1.heap[B]? = some (.cells #[u, v] 51 (0, 0)) := by
  subst e
  exact ⟨h.1.drewN _, below_drewN h.2.1 _, h.2.2⟩
set_option maxHeartbeats 2000000 in
set_option maxRecDepth 8000 in
theorem qclone_any {w : World} {b : Nat} {s : Sn} {ad : Option Addr} {cap X o : Nat} (hk : s.go + s.R.length ≤ 32) (h : Sb w b s ad cap X o) :
    Calls Try.prog 22 #[.pointer (some ⟨b, 2, none⟩)] w fun e w' => ∃ ad', e = .returned (.agg #[.int .i64 (s.go : Int), .slice ad' s.R.length s.R.length]) ∧ (0 < s.R.length → ad' = some ⟨X, o, none⟩) ∧ Below w.heap.size w w' := by
  have HK := hide hk
  obtain ⟨B, hB⟩ : ∃ B, w.heap.size = B := ⟨_, rfl⟩
  have HLB : Hid (X < B ∧ b < B ∨ b < B ∧ cap = 0) := hide (by have h1 := h.lt; by_cases h0 : 0 < cap; (have := h.rs.lt h0; omega); omega)
  have HLo : Hid (w.heap.size ≤ B) := hide (by omega)
  have HS : Hid (Sb (w.alloc (.cells #[.int .i64 0, .slice none 0 0] 51)).drew b s ad cap X o ∧ Below w.heap.size w (w.alloc (.cells #[.int .i64 0, .slice none 0 0] 51)).drew ∧ ∃ u v, (w.alloc (.cells #[.int .i64 0, .slice none 0 0] 51)).drew.heap[B]? = some (.cells #[u, v] 51 (0, 0))) := hide ⟨(h.below (below_alloc w _)).drew, below_drew (below_alloc w _), _, _, by rw [← hB]; exact heap_alloc_new w _⟩
  clear h hk
  go_enter Try.func22, Try.ntmps22
  go_wp2
  clear hB
  generalize w.alloc (.cells #[.int .i64 0, .slice none 0 0] 51) = W at *
  refine wp_region_held_drew (S := fun w' => Sb w' b s ad cap X o ∧ Below w.heap.size w w' ∧ ∃ u v, w'.heap[B]? = some (.cells #[u, v] 51 (0, 0))) (by kernel_rfl) (HS.out) (fun hHeld => ?_)
  refine wpAnyH_take (i := 0) (v := .pointer (some ⟨b, 2, none⟩)) rfl (by kernel_rfl) (by kernel_rfl) (by kernel_rfl) (fun _ _ _ h => h) (Or.inl ⟨by kernel_rfl, fun w1 hSw => by clear hHeld; have k0 := hSw.1.c2; go_simp⟩) hHeld ?_
  try simp only [Act.put]
  try simp only [List.getElem_toArray]
  try simp only [List.getElem_cons_succ]
  try simp only [List.getElem_cons_zero]
  try simp only [List.setIfInBounds_toArray]
  try simp only [List.set_cons_succ, List.set_cons_zero]
  refine wpAnyH_take (i := 1) (v := .pointer (some ⟨b, 2, none⟩)) rfl (by kernel_rfl) (by kernel_rfl) (by kernel_rfl) (fun _ _ _ h => h) (Or.inl ⟨by kernel_rfl, fun w1 hSw => by clear hHeld; have k0 := hSw.1.c2; go_simp⟩) hHeld ?_
  try simp only [Act.put]
  try simp only [List.getElem_toArray]
  try simp only [List.getElem_cons_succ]
  try simp only [List.getElem_cons_zero]
  try simp only [List.setIfInBounds_toArray]
  try simp only [List.set_cons_succ, List.set_cons_zero]
  refine wpAnyH_take (i := 2) (v := .pointer (some ⟨b, 2, none⟩)) rfl (by kernel_rfl) (by kernel_rfl) (by kernel_rfl) (fun _ _ _ h => h) (Or.inl ⟨by kernel_rfl, fun w1 hSw => by clear hHeld; have k0 := hSw.1.c2; go_simp⟩) hHeld ?_
  try simp only [Act.put]
  try simp only [List.getElem_toArray]
  try simp only [List.getElem_cons_succ]
  try simp only [List.getElem_cons_zero]
  try simp only [List.setIfInBounds_toArray]
  try simp only [List.set_cons_succ, List.set_cons_zero]
  refine wpAnyH_take (i := 3) (v := .int .i64 (s.go : Int)) rfl (by kernel_rfl) (by kernel_rfl) (by kernel_rfl) (fun _ _ _ h => h) (Or.inl ⟨by kernel_rfl, fun w1 hSw => by clear hHeld; have k0 := hSw.1.c2; go_simp⟩) hHeld ?_
  try simp only [Act.put]
  try simp only [List.getElem_toArray]
  try simp only [List.getElem_cons_succ]
  try simp only [List.getElem_cons_zero]
  try simp only [List.setIfInBounds_toArray]
  try simp only [List.set_cons_succ, List.set_cons_zero]
  refine wpAnyH_take (i := 4) (v := .pointer (some ⟨b, 2, none⟩)) rfl (by kernel_rfl) (by kernel_rfl) (by kernel_rfl) (fun _ _ _ h => h) (Or.inl ⟨by kernel_rfl, fun w1 hSw => by clear hHeld; have k0 := hSw.1.c2; go_simp⟩) hHeld ?_
  try simp only [Act.put]
  try simp only [List.getElem_toArray]
  try simp only [List.getElem_cons_succ]
  try simp only [List.getElem_cons_zero]
  try simp only [List.setIfInBounds_toArray]
  try simp only [List.set_cons_succ, List.set_cons_zero]
  refine wpAnyH_take (i := 5) (v := .pointer (some ⟨b, 2, none⟩)) rfl (by kernel_rfl) (by kernel_rfl) (by kernel_rfl) (fun _ _ _ h => h) (Or.inl ⟨by kernel_rfl, fun w1 hSw => by clear hHeld; have k0 := hSw.1.c2; go_simp⟩) hHeld ?_
  try simp only [Act.put]
  try simp only [List.getElem_toArray]
  try simp only [List.getElem_cons_succ]
  try simp only [List.getElem_cons_zero]
  try simp only [List.setIfInBounds_toArray]
  try simp only [List.set_cons_succ, List.set_cons_zero]
  refine wpAnyH_take (i := 6) (v := .pointer (some ⟨b, 2, none⟩)) rfl (by kernel_rfl) (by kernel_rfl) (by kernel_rfl) (fun _ _ _ h => h) (Or.inl ⟨by kernel_rfl, fun w1 hSw => by clear hHeld; have k0 := hSw.1.c2; go_simp⟩) hHeld ?_
  try simp only [Act.put]
  try simp only [List.getElem_toArray]
  try simp only [List.getElem_cons_succ]
  try simp only [List.getElem_cons_zero]
  try simp only [List.setIfInBounds_toArray]
  try simp only [List.set_cons_succ, List.set_cons_zero]
  refine wpAnyH_take (i := 7) (v := .pointer (some ⟨b, 2, none⟩)) rfl (by kernel_rfl) (by kernel_rfl) (by kernel_rfl) (fun _ _ _ h => h) (Or.inl ⟨by kernel_rfl, fun w1 hSw => by clear hHeld; have k0 := hSw.1.c2; go_simp⟩) hHeld ?_
  try simp only [Act.put]
  try simp only [List.getElem_toArray]
  try simp only [List.getElem_cons_succ]
  try simp only [List.getElem_cons_zero]
  try simp only [List.setIfInBounds_toArray]
  try simp only [List.set_cons_succ, List.set_cons_zero]
  refine wpAnyH_take (i := 8) (v := .int .i64 (s.go : Int)) rfl (by kernel_rfl) (by kernel_rfl) (by kernel_rfl) (fun _ _ _ h => h) (Or.inl ⟨by kernel_rfl, fun w1 hSw => by clear hHeld; have k0 := hSw.1.c2; go_simp⟩) hHeld ?_
  try simp only [Act.put]
  try simp only [List.getElem_toArray]
  try simp only [List.getElem_cons_succ]
  try simp only [List.getElem_cons_zero]
  try simp only [List.setIfInBounds_toArray]
  try simp only [List.set_cons_succ, List.set_cons_zero]
  refine wpAnyH_take (i := 9) (v := .pointer (some ⟨b, 2, none⟩)) rfl (by kernel_rfl) (by kernel_rfl) (by kernel_rfl) (fun _ _ _ h => h) (Or.inl ⟨by kernel_rfl, fun w1 hSw => by clear hHeld; have k0 := hSw.1.c2; go_simp⟩) hHeld ?_
  try simp only [Act.put]
  try simp only [List.getElem_toArray]
  try simp only [List.getElem_cons_succ]
  try simp only [List.getElem_cons_zero]
  try simp only [List.setIfInBounds_toArray]
  try simp only [List.set_cons_succ, List.set_cons_zero]
  refine wpAnyH_ready (rs := [10]) (by kernel_rfl) (by simp) ?_
  refine AllReadyH.cons rfl (fun K hK => ?_) AllReadyH.nil
  go_simp
  refine (end_any HK.out hHeld.1).mono ?_
  rintro e V1 ⟨rfl, m1, hV1⟩
  have HS1 := hide (SS.dr hHeld hV1)
  clear hV1
  refine hK.out _ _ (HS1.out) (fun hHeld => ?_)
  clear hK K
  try simp only [Act.put]
  try simp only [List.getElem_toArray]
  try simp only [List.getElem_cons_succ]
  try simp only [List.getElem_cons_zero]
  try simp only [List.setIfInBounds_toArray]
  try simp only [List.set_cons_succ, List.set_cons_zero]
  refine wpAnyH_ready (rs := [11]) (by kernel_rfl) (by simp) ?_
  refine AllReadyH.cons rfl (fun K hK => ?_) AllReadyH.nil
  go_simp
  refine (piece_any HK.out hHeld.1 (a := (s.go : Int)) (c := (s.len : Int)) (f := 0) (t := s.R.length) (by omega) (by unfold Sn.len; omega) (Nat.zero_le _) (Nat.le_refl _)).mono ?_
  rintro e V2 ⟨ad', rfl, hat, m2, hV2⟩
  have HAt := hide hat
  have HS2 := hide (SS.dr hHeld hV2)
  clear hat hV2
  rw [Nat.sub_zero]
  refine hK.out _ _ (HS2.out) (fun hHeld => ?_)
  clear hK K
  try simp only [Act.put]
  try simp only [List.getElem_toArray]
  try simp only [List.getElem_cons_succ]
  try simp only [List.getElem_cons_zero]
  try simp only [List.setIfInBounds_toArray]
  try simp only [List.set_cons_succ, List.set_cons_zero]
  refine wpAnyH_take (i := 12) (v := .agg #[.int .i64 (s.go : Int), .slice ad' s.R.length s.R.length]) rfl (by kernel_rfl) (by kernel_rfl) (by kernel_rfl) (fun _ _ _ h => h) (Or.inl ⟨by kernel_rfl, fun w1 hSw => by clear hHeld; have k0 := hSw.1.c2; go_simp⟩) hHeld ?_
  try simp only [Act.put]
  try simp only [List.getElem_toArray]
  try simp only [List.getElem_cons_succ]
  try simp only [List.getElem_cons_zero]
  try simp only [List.setIfInBounds_toArray]
  try simp only [List.set_cons_succ, List.set_cons_zero]
  refine wpAnyH_ready (rs := [13]) (by kernel_rfl) (by simp) ?_
  refine AllReadyH.cons rfl (fun K hK => ?_) AllReadyH.nil
  obtain ⟨u, v, hB⟩ := hHeld.2.2
  have b0 := two0 hB
  have b1 := two1 hB
  have bz := twoz hB
  have HB2 := hide hB
  have HS3 := hide hHeld
  clear hB hHeld
  go_simp
  have HB3 := hide (two_set HB2.out (.int .i64 (s.go : Int)) (.slice ad' s.R.length s.R.length))
  refine hK.out _ _ (⟨HS3.out.1.setO HLB.out _ _ _ _, below_set2 HS3.out.2.1 HLo.out _ _ _ _, _, _, HB3.out⟩) (fun hHeld => ?_)
  clear hK K
  try simp only [Act.put]
  try simp only [List.getElem_toArray]
  try simp only [List.getElem_cons_succ]
  try simp only [List.getElem_cons_zero]
  try simp only [List.setIfInBounds_toArray]
  try simp only [List.set_cons_succ, List.set_cons_zero]
  refine wpAnyH_done (by kernel_rfl) ?_ _
  have g0 := two0 HB3.out
  have g1 := two1 HB3.out
  have HBe := hide hHeld.2.1
  go_wp2
  refine bodyPost_ret (by rw [results_c (fn := Try.f22) rfl]; go_simp; rfl) rfl ?_
  exact ⟨ad', rfl, fun h0 => by have := HAt.out h0; simpa using this, HBe.out⟩
set_option maxHeartbeats 2000000 in
set_option maxRecDepth 8000 in
theorem sclone_any {w : World} {b : Nat} {s : Sn} {ad : Option Addr} {cap X o : Nat} (hk : s.go + s.R.length ≤ 32) (h : Sb w b s ad cap X o) :
    Calls Try.prog 9 #[.pointer (some ⟨b, 0, none⟩)] w fun e w' => e = .returned (.pointer (some ⟨w.heap.size, 0, none⟩)) ∧ (∃ ad', Sb w' w.heap.size s ad' s.R.length X o) ∧ Below w.heap.size w w' := by
  have HK := hide hk
  have HH := hide h
  have c0 := h.c0
  have c1 := h.c1
  have c2 := h.c2
  have c3 := h.c3
  have c4 := h.c4
  have c5 := h.c5
  have hl := h.lt
  have HQ := hide (qclone_any hk (h.below (below_alloc w (.cells (scs s ad cap) 53))))
  have HB1 : Hid (Below w.heap.size w (w.alloc (.cells (scs s ad cap) 53))) := hide (below_alloc w _)
  have HN1 : Hid ((w.alloc (.cells (scs s ad cap) 53)).heap[w.heap.size]? = some (.cells (scs s ad cap) 53 (0, 0))) := hide (heap_alloc_new w _)
  clear h hk
  unfold scs at HQ HB1 HN1
  go_enter Try.func9, Try.ntmps9
  go_wp2_with fail
  refine HQ.out.mono ?_
  rintro e w2 ⟨ad', rfl, hat, hB2⟩
  have hB3 := HB1.out.trans (hB2.mono (by rw [World.size_alloc]; omega))
  have hN2 : w2.heap[w.heap.size]? = some (.cells (scs s ad cap) 53 (0, 0)) := (hB2.block w.heap.size (by rw [World.size_alloc]; omega)).trans HN1.out
  have HN2 := hide hN2
  have HB3 := hide hB3
  have HAt := hide hat
  obtain ⟨B, hB⟩ : ∃ B, w.heap.size = B := ⟨_, rfl⟩
  have d2 : w2.cell? ⟨B, 2, none⟩ = some (.int .i64 (s.go : Int)) := by rw [← hB]; simp [World.cell?, hN2, scs]
  have d3 : w2.cell? ⟨B, 3, none⟩ = some (.slice ad s.R.length cap) := by rw [← hB]; simp [World.cell?, hN2, scs]
  have dz : ∀ k, w2.frozen? ⟨B, k, none⟩ = false := fun k => by rw [← hB]; simp [World.frozen?, hN2]
  have HBe := hide hB
  have dz2 := dz 2
  have dz3 := dz 3
  clear dz hN2 hB3 hB2 hat HQ HB1 HN1
  go_wp2_with fail
  go_ret
  have hb := HBe.out
  subst hb
  refine ⟨rfl, ⟨ad', ?_, ?_⟩, ?_⟩
  · have e1 := heap_set_self _ w.heap.size 2 (.int .i64 (s.go : Int)) _ _ _ HN2.out
    have e2 := heap_set_self _ w.heap.size 3 (.slice ad' s.R.length s.R.length) _ _ _ e1
    exact e2
  · have hp := HH.out.rs.piece (f := 0) (t := s.R.length) (Nat.zero_le _) (Nat.le_refl _) ad' (fun h0 => by rw [Nat.add_zero]; exact HAt.out h0)
    rw [Nat.sub_zero, Nat.add_zero, List.drop_zero, List.take_of_length_le (Nat.le_refl _)] at hp
    refine hp.keep fun h0 => ?_
    have hX := HH.out.rs.lt (by have := HH.out.rs.le; omega)
    exact (Below.heap_setCell _ ⟨w.heap.size, 3, none⟩ _ X (Nat.ne_of_lt hX)).trans ((Below.heap_setCell _ ⟨w.heap.size, 2, none⟩ _ X (Nat.ne_of_lt hX)).trans (HB3.out.block X hX))
  · exact below_set2 HB3.out (Nat.le_refl _) _ _ _ _
def Sn.putE (s : Sn) (t : ByteArray) : Int := if 32 < t.size then 142 else if 32 ≤ s.len then 141 else 0
def Sn.put (s : Sn) (t : ByteArray) : Sn := if s.putE t = 0 then s.add t else s
theorem Sn.put_ok {s : Sn} (h : s.ok) (t : ByteArray) : (s.put t).ok := by
  unfold Sn.put
  split
  · rename_i hp
    have hl : ¬ 32 ≤ s.len := by
      intro hc
      unfold Sn.putE at hp
      by_cases h3 : 32 < t.size
      · rw [if_pos h3] at hp; cases hp
      · rw [if_neg h3, if_pos hc] at hp; cases hp
    unfold Sn.len at hl
    exact ⟨h.w1, h.w8, h.r1, h.r2, by show s.go + (s.R ++ [t]).length ≤ 32; simp; omega, h.gs, by have := h.we1; have := h.we2; show s.said ≤ min (s.go + s.wd) (s.go + (s.R ++ [t]).length); simp; omega, h.t⟩
  · exact h
/-- where what was put lies -/
def PutP (b : Nat) (s : Sn) (t : ByteArray) (ad : Option Addr) (cap X o : Nat) (w w' : World) : Prop :=
  (s.putE t ≠ 0 ∧ ∃ m, w' = w.drewN m) ∨ (s.putE t = 0 ∧ ∃ ad' cap' X' o', Sb w' b (s.add t) ad' cap' X' o' ∧ PutF b s ad cap X o ad' cap' X' o' w w')
set_option maxHeartbeats 2000000 in
set_option maxRecDepth 8000 in
theorem sput_any {w : World} {b : Nat} {s : Sn} {ad : Option Addr} {cap X o : Nat} (hk : s.ok) (h : Sb w b s ad cap X o) (t : ByteArray) :
    Calls Try.prog 13 #[.pointer (some ⟨b, 0, none⟩), .string t] w fun e w' => e = .returned (.int .i64 (s.putE t)) ∧ PutP b s t ad cap X o w w' := by
  have HK := hide hk
  have HL := hide (len_any hk.l h)
  have HH := hide h
  clear hk h
  by_cases h1 : 32 < t.size
  · have e1 : s.putE t = 142 := if_pos h1
    rw [e1]
    have HE := hide e1
    clear e1
    go_enter Try.func13, Try.ntmps13
    go_wp2
    go_ret
    exact ⟨rfl, .inl ⟨by rw [HE.out]; decide, 0, rfl⟩⟩
  · by_cases h2 : 32 ≤ s.len
    · have e1 : s.putE t = 141 := by unfold Sn.putE; rw [if_neg h1, if_pos h2]
      rw [e1]
      have HE := hide e1
      clear e1
      go_enter Try.func13, Try.ntmps13
      go_wp2_with fail
      refine HL.out.mono ?_
      rintro e w1 ⟨rfl, m, rfl⟩
      go_wp2_with fail
      go_ret
      exact ⟨rfl, .inl ⟨by rw [HE.out]; decide, m, rfl⟩⟩
    · have e1 : s.putE t = 0 := by unfold Sn.putE; rw [if_neg h1, if_neg h2]
      rw [e1]
      have HE := hide e1
      clear e1
      go_enter Try.func13, Try.ntmps13
      go_wp2_with fail
      refine HL.out.mono ?_
      rintro e w1 ⟨rfl, m, rfl⟩
      go_wp2_with fail
      refine (put_any (by have := HK.out.l; omega) (HH.out.drewN m) t).mono ?_
      rintro e w2 ⟨rfl, ad', cap', X', o', hS, hF⟩
      have HF := hide hF
      have HS := hide hS
      clear hF hS
      go_wp2_with fail
      go_ret
      exact ⟨rfl, .inr ⟨HE.out, ad', cap', X', o', HS.out, by
        rcases HF.out with ⟨f1, f2, f3, f4, f5, f6⟩ | ⟨f1, f2⟩
        · exact .inl ⟨f1, f2, f3, f4, f5, f6.pre⟩
        · exact .inr ⟨f1, f2.pre⟩⟩⟩
def Sn.ackB (s : Sn) (k : Int) : Bool := decide ((s.go : Int) < k) && decide (k ≤ (s.said : Int))
def Sn.ack (s : Sn) (k : Int) : Sn := if s.ackB k then { s with go := k.toNat, R := s.R.drop (k.toNat - s.go), ti := if k.toNat = s.len then 0 else s.ti } else s
theorem Sn.ackB_iff {s : Sn} {k : Int} : s.ackB k = true ↔ (s.go : Int) < k ∧ k ≤ (s.said : Int) := by unfold Sn.ackB; simp
theorem Sn.ack_ok {s : Sn} (h : s.ok) (k : Int) : (s.ack k).ok := by
  unfold Sn.ack
  split
  · rename_i hp
    obtain ⟨h1, h2⟩ := Sn.ackB_iff.mp hp
    have h3 := h.we2
    have h4 := h.we1
    have hl : (s.R.drop (k.toNat - s.go)).length = s.R.length - (k.toNat - s.go) := List.length_drop
    refine ⟨h.w1, h.w8, h.r1, h.r2, ?_, ?_, ?_, ?_⟩
    · show k.toNat + (s.R.drop (k.toNat - s.go)).length ≤ 32
      have := h.l; omega
    · show k.toNat ≤ s.said; omega
    · show s.said ≤ min (k.toNat + s.wd) (k.toNat + (s.R.drop (k.toNat - s.go)).length)
      omega
    · show (if k.toNat = s.len then 0 else s.ti) ≤ s.rs
      have := h.t
      split <;> omega
  · exact h
set_option maxHeartbeats 2000000 in
set_option maxRecDepth 8000 in
theorem ack_any {w : World} {b : Nat} {s : Sn} {ad : Option Addr} {cap X o : Nat} (hk : s.ok) (h : Sb w b s ad cap X o) (k : Int) (hk6 : -9223372036854775808 ≤ k ∧ k ≤ 9223372036854775807) :
    Calls Try.prog 18 #[.pointer (some ⟨b, 0, none⟩), .int .i64 k] w fun e w' => e = .returned (.bool (s.ackB k)) ∧ ((s.ackB k = false ∧ w' = w) ∨ (s.ackB k = true ∧ ∃ ad', Sb w' b (s.ack k) ad' (s.R.length - (k.toNat - s.go)) X (o + (k.toNat - s.go)))) ∧ On b w w' := by
  have HA := hide (acked_any h)
  have HK := hide hk
  have HH := hide h
  have c4 := h.c4
  clear h hk
  by_cases h1 : k ≤ (s.go : Int)
  · have e1 : s.ackB k = false := by
      cases hb : s.ackB k with
      | false => rfl
      | true => have := Sn.ackB_iff.mp hb; omega
    rw [e1]
    have HE := hide e1
    clear e1
    go_enter Try.func18, Try.ntmps18
    go_wp2_with fail
    refine HA.out.mono ?_
    rintro e w1 ⟨rfl, rfl⟩
    go_wp2_with fail
    go_ret
    exact ⟨rfl, .inl ⟨by trivial, rfl⟩, On.refl b _⟩
  · have d1 : decide (k ≤ (s.go : Int)) = false := decide_eq_false h1
    by_cases h2 : (s.said : Int) < k
    · have e1 : s.ackB k = false := by
        cases hb : s.ackB k with
        | false => rfl
        | true => have := Sn.ackB_iff.mp hb; omega
      rw [e1]
      have HE := hide e1
      clear e1
      go_enter Try.func18, Try.ntmps18
      go_wp2_with fail
      refine HA.out.mono ?_
      rintro e w1 ⟨rfl, rfl⟩
      go_wp2_with fail
      go_ret
      exact ⟨rfl, .inl ⟨by trivial, rfl⟩, On.refl b _⟩
    · have d2 : decide ((s.said : Int) < k) = false := decide_eq_false h2
      have e1 : s.ackB k = true := Sn.ackB_iff.mpr ⟨by omega, by omega⟩
      have hAk : s.ack k = { s with go := k.toNat, R := s.R.drop (k.toNat - s.go), ti := if k.toNat = s.len then 0 else s.ti } := by unfold Sn.ack; rw [if_pos e1]
      rw [e1, hAk]
      obtain ⟨n, rfl⟩ : ∃ n : Nat, k = (n : Int) := ⟨k.toNat, by omega⟩
      rw [Int.toNat_natCast]
      have HE := hide e1
      have hw2 := HK.out.we2
      have HLv := hide (leave_any (k := n) HK.out.l HH.out (by omega) (by omega))
      have HN : Hid (s.go ≤ n ∧ n ≤ s.go + s.R.length) := hide ⟨by omega, by omega⟩
      clear e1 hAk hw2 h1 h2
      have d1 : decide (n ≤ s.go) = false := by simpa using d1
      have d2 : decide (s.said < n) = false := by simpa using d2
      go_enter Try.func18, Try.ntmps18
      go_wp2_with fail
      refine HA.out.mono ?_
      rintro e w1 ⟨rfl, rfl⟩
      go_wp2_with fail
      refine HLv.out.mono ?_
      rintro e w2 ⟨rfl, ⟨ad', hS⟩, hO⟩
      have hl2 : (Sn.mk s.wd s.rs n (s.R.drop (n - s.go)) s.said s.ti).len = s.len := by unfold Sn.len; show n + (s.R.drop (n - s.go)).length = _; rw [List.length_drop]; have := HN.out; omega
      have HL := hide (len_any (by have := HK.out.l; show n + (s.R.drop (n - s.go)).length ≤ 32; rw [List.length_drop]; have := HN.out; omega) hS)
      rw [hl2] at HL
      have HS := hide hS
      have HO := hide hO
      clear hl2 hS hO HLv
      go_wp2_with fail
      refine HL.out.mono ?_
      rintro e w3 ⟨rfl, m, rfl⟩
      by_cases h3 : n = s.len
      · have z5 := HS.out.z 5
        have c5 := HS.out.c5
        have e3 : (n == s.len) = true := by simpa using h3
        have HN3 := hide h3
        clear h3
        go_wp2_with fail
        go_ret
        exact ⟨rfl, ⟨ad', by rw [← HN3.out]; exact (HS.out.drewN m).c3_ti 0⟩, (HO.out.drewN m).set _ _⟩
      · have e3 : (n == s.len) = false := by simpa using h3
        have HN3 := hide h3
        clear h3
        go_wp2_with fail
        go_ret
        exact ⟨rfl, ⟨ad', HS.out.drewN m⟩, HO.out.drewN m⟩
end Go.Proofs.Yteckkaapibbpcaa
