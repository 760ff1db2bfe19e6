import Derived.Test.YtmkfhcdmcncgkaaSxX
namespace Go.Proofs.Ytmkfhcdmcncgkaa
open Go.RowKit Go.Shelf

def bX : ByteArray := ⟨#[120]⟩
/-- what came comes again -/
theorem Sw.again {s : Sw} (h : s.ok) {i : Int} {t : ByteArray} (hb : s.bad i t ≠ 152) : (s.tk i t).out i bX = [] ∧ (s.tk i t).tk i bX = s.tk i t ∧ ((s.tk i t).bad i bX = 0 → s.bad i t = 0 ∧ s.out i t = []) := by
  have hx : ¬ 32 < bX.size := by decide
  by_cases hz : s.bad i t = 0
  · obtain ⟨h1, h2, h3, h4⟩ := s.bad_yes hz
    cases hh : has i s.L with
    | true =>
      have e1 : s.tk i t = s := by unfold Sw.tk; rw [hz, if_pos rfl, if_pos hh]
      have e2 : s.bad i bX = 0 := by unfold Sw.bad; rw [if_neg hx, if_neg (by omega)]
      have e3 : s.out i t = [] := by unfold Sw.out; rw [hz, if_pos rfl, if_pos hh]
      rw [e1]
      refine ⟨?_, ?_, fun _ => ⟨hz, e3⟩⟩
      · unfold Sw.out; rw [e2, if_pos rfl, if_pos hh]
      · unfold Sw.tk; rw [e2, if_pos rfl, if_pos hh]
    | false =>
      have e1 : s.tk i t = ⟨s.win, (s.hand i t).2.1, (s.hand i t).2.2⟩ := by unfold Sw.tk; rw [hz, if_pos rfl, if_neg (by rw [hh]; decide)]
      by_cases hi : i = s.nxt
      · have hy : has s.nxt (put ⟨i, t⟩ s.L) = true := has_iff.2 ⟨⟨i, t⟩, mem_put.2 (.inl rfl), hi⟩
        obtain ⟨hp, hq⟩ := h.put hz
        have h5 : i < (s.tk i t).nxt := by
          rw [e1]
          show i < (s.hand i t).2.1
          unfold Sw.hand
          rw [hnd_yes hy]
          have := (hnd_post (c := 32) _ (Nat.le_refl _) (del_rise (put_rise h.rise ⟨i, t⟩) s.nxt) (n := s.nxt + 1) fun x hx => by
            obtain ⟨h6, h7⟩ := mem_del.1 hx
            have := hq x h6
            omega).le
          simp only
          omega
        have e2 : (s.tk i t).bad i bX = 151 := by unfold Sw.bad; rw [if_neg hx, if_pos (.inl h5)]
        refine ⟨?_, ?_, fun e => by rw [e2] at e; cases e⟩
        · unfold Sw.out; rw [e2]; rfl
        · show (s.tk i t).tk i bX = s.tk i t
          generalize s.tk i t = r at e2
          unfold Sw.tk; rw [e2]; rfl
      · have hn : has s.nxt (put ⟨i, t⟩ s.L) = false := has_false.2 fun x hx => by
          rcases mem_put.1 hx with rfl | ⟨hx, _⟩
          · exact hi
          · have := (h.all x hx).1
            omega
        have e2 : s.hand i t = ([], s.nxt, put ⟨i, t⟩ s.L) := hnd_no hn
        rw [e2] at e1
        have e3 : s.out i t = [] := by unfold Sw.out; rw [hz, if_pos rfl, if_neg (by rw [hh]; decide), e2]
        have e4 : (s.tk i t).bad i bX = 0 := by
          rw [e1]
          unfold Sw.bad
          rw [if_neg hx, if_neg (by simp only; omega)]
        have e5 : has i (s.tk i t).L = true := by
          rw [e1]
          exact has_iff.2 ⟨⟨i, t⟩, mem_put.2 (.inl rfl), rfl⟩
        generalize s.tk i t = r at *
        refine ⟨?_, ?_, fun _ => ⟨hz, e3⟩⟩
        · unfold Sw.out; rw [e4, if_pos rfl, if_pos e5]
        · unfold Sw.tk; rw [e4, if_pos rfl, if_pos e5]
  · have e0 : s.bad i t = 151 := by
      unfold Sw.bad at hb hz ⊢
      split
      · rename_i h1; rw [if_pos h1] at hb; exact absurd rfl hb
      · rename_i h1
        rw [if_neg h1] at hz
        split
        · rfl
        · rename_i h2; rw [if_neg h2] at hz; exact absurd rfl hz
    have e1 : s.tk i t = s := by unfold Sw.tk; rw [e0]; rfl
    have e2 : s.bad i bX = 151 := by
      unfold Sw.bad at e0 ⊢
      rw [if_neg hx]
      split at e0
      · cases e0
      · split at e0
        · rename_i h2; rw [if_pos h2]
        · cases e0
    rw [e1]
    refine ⟨?_, ?_, fun e => by rw [e2] at e; cases e⟩
    · unfold Sw.out; rw [e2]; rfl
    · unfold Sw.tk; rw [e2]; rfl

/-- a stitcher that the law made -/
structure Cy (w0 : World) (b m : Nat) (s : Sw) (w : World) : Prop where
  sb : Sb w b m s
  ok : s.ok
  bel : Below w0.heap.size w0 w
  hb : w0.heap.size ≤ b
  hm : w0.heap.size ≤ m
theorem Cy.take {w0 w w' : World} {b m : Nat} {s : Sw} (h : Cy w0 b m s w) (i : Int) (t : ByteArray) (hw : Sb w' b m (s.tk i t)) (hm : Mv b m w w') : Cy w0 b m (s.tk i t) w' :=
  ⟨hw, h.ok.tk i t, Mv.from h.bel hm h.hb h.hm, h.hb, h.hm⟩
theorem Cy.other {w0 w w' : World} {b m c d : Nat} {s : Sw} (h : Cy w0 b m s w) (hm : Mv c d w w') (h1 : b ≠ c) (h2 : b ≠ d) (h3 : m ≠ c) (h4 : m ≠ d) (h5 : w0.heap.size ≤ c) (h6 : w0.heap.size ≤ d) : Cy w0 b m s w' :=
  ⟨h.sb.keep (hm.block b h.sb.lt h1 h2) (hm.block m h.sb.map.lt h3 h4), h.ok, Mv.from h.bel hm h5 h6, h.hb, h.hm⟩
theorem Cy.drew {w0 w : World} {b m : Nat} {s : Sw} (h : Cy w0 b m s w) : Cy w0 b m s w.drew := ⟨h.sb.below (Below.refl _ _).drew, h.ok, h.bel.drew, h.hb, h.hm⟩
theorem Cy.below {w0 w w' : World} {b m : Nat} {s : Sw} (h : Cy w0 b m s w) (hb : Below w.heap.size w w') : Cy w0 b m s w' :=
  ⟨h.sb.below hb, h.ok, h.bel.trans (hb.mono h.bel.size), h.hb, h.hm⟩

set_option maxHeartbeats 16000000 in
set_option maxRecDepth 8000 in
theorem stitchTwice_walk {w : World} {x : Int} (_hx : -9223372036854775808 ≤ x ∧ x ≤ 9223372036854775807) {y : Int} (_hy : -9223372036854775808 ≤ y ∧ y ≤ 9223372036854775807) {ad : Option Addr} {ab ao cap : Nat} {Q : List Oc} (hQ : Sr Oc.cs 4 w ad ab ao Q) (hQl : Q.length ≤ 3518437208780) (_hQb : ∀ i (h : i < Q.length), I6 (Q[i]).on ∧ I6 (Q[i]).n) :
    Calls Try.prog 5 #[.int .i64 x, .int .i64 y, .slice ad Q.length cap] w fun e w' => e = .returned (.bool true) ∧ Below w.heap.size w w' := by
  have HQ := hide hQ
  clear hQ
  cases hn : nok x y with
  | false =>
    have HN := hide (new_no hn w)
    go_enter Try.func5, Try.ntmps5
    go_wp2_with fail
    refine HN.out.mono ?_
    rintro e w1 ⟨rfl, rfl⟩
    go_wp2_with fail
    refine (awake_any _).mono ?_
    rintro e w2 ⟨rfl, hB2⟩
    go_wp2_with fail
    go_ret
    exact ⟨rfl, hB2⟩
  | true =>
    have HN := hide (new_yes hn w)
    have HNK := hide hn
    clear hn
    go_enter Try.func5, Try.ntmps5
    go_wp2_with fail
    refine HN.out.mono ?_
    rintro e w1 ⟨rfl, hW1, hB1⟩
    obtain ⟨b, hb⟩ : ∃ b, w.heap.size + 1 = b := ⟨_, rfl⟩
    obtain ⟨m, hm⟩ : ∃ m, w.heap.size = m := ⟨_, rfl⟩
    rw [show Value.pointer (some ⟨w.heap.size + 1, 0, none⟩) = Value.pointer (some ⟨b, 0, none⟩) by rw [hb]]
    have HC0 : Hid (Cy w b m ⟨x, y, []⟩ w1) := by rw [hb, hm] at hW1; exact ⟨hW1, ok_new HNK.out, hB1, by omega, by omega⟩
    clear HN HNK hW1 hB1 hb hm
    go_wp2_with fail
    refine (awake_any _).mono ?_
    rintro e w2 ⟨rfl, hB2⟩
    have HC := hide (HC0.out.below hB2)
    clear HC0 hB2
    go_wp2_with fail
    go_loopw [9, 10, 11, 12, 13, 14, 15, 16, 17, 18] (fun t _ _ _ _ _ _ _ _ _ wr => ∃ (i : Nat) (s : Sw), i ≤ Q.length ∧ t = .int .i64 (i : Int) ∧ Hid (Cy w b m s wr)) (fun t _ _ _ _ _ _ _ _ _ _ => Q.length - (intOf t).toNat)
    case atStart => exact ⟨0, _, Nat.zero_le _, rfl, HC⟩
    case round =>
      clear HC
      obtain ⟨i, s, hi, rfl, HC0⟩ := hrel
      by_cases hiq : i < Q.length
      · have hat := HQ.out.at_ (by omega)
        subst hat
        have HRd : Hid (∀ V, Below w.heap.size w V → V.cell? ⟨ab, ao + i * 4 + 2, none⟩ = some (.int .i64 (Q[i]).n) ∧ V.cell? ⟨ab, ao + i * 4 + 3, none⟩ = some (.string (Q[i]).tx)) := hide fun V hV => by
          obtain ⟨q0, q1, q2, q3⟩ := (HQ.out.below (by decide) Oc.cs0 hV).four hiq
          exact ⟨q2, q3⟩
        generalize Q[i] = q at *
        obtain ⟨E, hE⟩ : ∃ E, s.bad q.n q.tx = E := ⟨_, rfl⟩
        obtain ⟨Kl, hK⟩ : ∃ Kl, (s.out q.n q.tx).length = Kl := ⟨_, rfl⟩
        have HE := hide hE
        have HO := hide hK
        clear hE hK
        go_wp2_with fail
        refine (clone_any HC0.out.sb).mono ?_
        rintro e W0 ⟨rfl, hw0, hb0⟩
        have hlt := HC0.out.sb.lt
        have hltm := HC0.out.sb.map.lt
        have hsz := HC0.out.bel.size
        obtain ⟨cb, hcb⟩ : ∃ cb, wr.heap.size + 1 = cb := ⟨_, rfl⟩
        obtain ⟨cm, hcm⟩ : ∃ cm, wr.heap.size = cm := ⟨_, rfl⟩
        rw [show Value.pointer (some ⟨wr.heap.size + 1, 0, none⟩) = Value.pointer (some ⟨cb, 0, none⟩) by rw [hcb]]
        have HC := hide (HC0.out.below hb0)
        have HD : Hid (Cy w cb cm s W0) := by rw [hcb, hcm] at hw0; exact ⟨hw0, HC0.out.ok, HC.out.bel, by omega, by omega⟩
        have HNE : Hid (cb ≠ b ∧ cb ≠ m ∧ cm ≠ b ∧ cm ≠ m) := hide ⟨by omega, by omega, by omega, by omega⟩
        have HS0 := hide (HRd.out _ HC.out.bel)
        clear HC0 hw0 hb0 hlt hltm hsz hcb hcm
        go_wp2_with fail
        refine wp_region_held_drew (S := fun w' => w'.cell? ⟨ab, ao + i * 4 + 2, none⟩ = some (.int .i64 q.n) ∧ w'.cell? ⟨ab, ao + i * 4 + 3, none⟩ = some (.string q.tx)) (by kernel_rfl) (HS0.out) (fun hHeld => ?_)
        refine wpAnyH_take (i := 0) (v := .pointer (some ⟨b, 0, none⟩)) rfl (by kernel_rfl) (by kernel_rfl) (by kernel_rfl) (fun _ _ _ h => h) (Or.inl ⟨by kernel_rfl, fun w1 hSw => by clear hHeld; obtain ⟨k2, k3⟩ := hSw; go_simp⟩) hHeld ?_
        try simp only [Act.put]
        try simp only [List.getElem_toArray]
        try simp only [List.getElem_cons_succ]
        try simp only [List.getElem_cons_zero]
        try simp only [List.setIfInBounds_toArray]
        try simp only [List.set_cons_succ, List.set_cons_zero]
        refine wpAnyH_take (i := 1) (v := .slice (some ⟨ab, ao, none⟩) Q.length cap) rfl (by kernel_rfl) (by kernel_rfl) (by kernel_rfl) (fun _ _ _ h => h) (Or.inl ⟨by kernel_rfl, fun w1 hSw => by clear hHeld; obtain ⟨k2, k3⟩ := hSw; go_simp⟩) hHeld ?_
        try simp only [Act.put]
        try simp only [List.getElem_toArray]
        try simp only [List.getElem_cons_succ]
        try simp only [List.getElem_cons_zero]
        try simp only [List.setIfInBounds_toArray]
        try simp only [List.set_cons_succ, List.set_cons_zero]
        refine wpAnyH_take (i := 2) (v := .int .i64 (i : Int)) rfl (by kernel_rfl) (by kernel_rfl) (by kernel_rfl) (fun _ _ _ h => h) (Or.inl ⟨by kernel_rfl, fun w1 hSw => by clear hHeld; obtain ⟨k2, k3⟩ := hSw; go_simp⟩) hHeld ?_
        try simp only [Act.put]
        try simp only [List.getElem_toArray]
        try simp only [List.getElem_cons_succ]
        try simp only [List.getElem_cons_zero]
        try simp only [List.setIfInBounds_toArray]
        try simp only [List.set_cons_succ, List.set_cons_zero]
        refine wpAnyH_take (i := 3) (v := .pointer (some ⟨ab, ao + i * 4, none⟩)) rfl (by kernel_rfl) (by kernel_rfl) (by kernel_rfl) (fun _ _ _ h => h) (Or.inl ⟨by kernel_rfl, fun w1 hSw => by clear hHeld; obtain ⟨k2, k3⟩ := hSw; go_simp⟩) hHeld ?_
        try simp only [Act.put]
        try simp only [List.getElem_toArray]
        try simp only [List.getElem_cons_succ]
        try simp only [List.getElem_cons_zero]
        try simp only [List.setIfInBounds_toArray]
        try simp only [List.set_cons_succ, List.set_cons_zero]
        refine wpAnyH_take (i := 4) (v := .pointer (some ⟨ab, ao + i * 4 + 2, none⟩)) rfl (by kernel_rfl) (by kernel_rfl) (by kernel_rfl) (fun _ _ _ h => h) (Or.inl ⟨by kernel_rfl, fun w1 hSw => by clear hHeld; obtain ⟨k2, k3⟩ := hSw; go_simp⟩) hHeld ?_
        try simp only [Act.put]
        try simp only [List.getElem_toArray]
        try simp only [List.getElem_cons_succ]
        try simp only [List.getElem_cons_zero]
        try simp only [List.setIfInBounds_toArray]
        try simp only [List.set_cons_succ, List.set_cons_zero]
        refine wpAnyH_take (i := 5) (v := .int .i64 q.n) rfl (by kernel_rfl) (by kernel_rfl) (by kernel_rfl) (fun _ _ _ h => h) (Or.inl ⟨by kernel_rfl, fun w1 hSw => by clear hHeld; obtain ⟨k2, k3⟩ := hSw; go_simp⟩) hHeld ?_
        try simp only [Act.put]
        try simp only [List.getElem_toArray]
        try simp only [List.getElem_cons_succ]
        try simp only [List.getElem_cons_zero]
        try simp only [List.setIfInBounds_toArray]
        try simp only [List.set_cons_succ, List.set_cons_zero]
        refine wpAnyH_take (i := 6) (v := .slice (some ⟨ab, ao, none⟩) Q.length cap) rfl (by kernel_rfl) (by kernel_rfl) (by kernel_rfl) (fun _ _ _ h => h) (Or.inl ⟨by kernel_rfl, fun w1 hSw => by clear hHeld; obtain ⟨k2, k3⟩ := hSw; go_simp⟩) hHeld ?_
        try simp only [Act.put]
        try simp only [List.getElem_toArray]
        try simp only [List.getElem_cons_succ]
        try simp only [List.getElem_cons_zero]
        try simp only [List.setIfInBounds_toArray]
        try simp only [List.set_cons_succ, List.set_cons_zero]
        refine wpAnyH_take (i := 7) (v := .int .i64 (i : Int)) rfl (by kernel_rfl) (by kernel_rfl) (by kernel_rfl) (fun _ _ _ h => h) (Or.inl ⟨by kernel_rfl, fun w1 hSw => by clear hHeld; obtain ⟨k2, k3⟩ := hSw; go_simp⟩) hHeld ?_
        try simp only [Act.put]
        try simp only [List.getElem_toArray]
        try simp only [List.getElem_cons_succ]
        try simp only [List.getElem_cons_zero]
        try simp only [List.setIfInBounds_toArray]
        try simp only [List.set_cons_succ, List.set_cons_zero]
        refine wpAnyH_take (i := 8) (v := .pointer (some ⟨ab, ao + i * 4, none⟩)) rfl (by kernel_rfl) (by kernel_rfl) (by kernel_rfl) (fun _ _ _ h => h) (Or.inl ⟨by kernel_rfl, fun w1 hSw => by clear hHeld; obtain ⟨k2, k3⟩ := hSw; go_simp⟩) hHeld ?_
        try simp only [Act.put]
        try simp only [List.getElem_toArray]
        try simp only [List.getElem_cons_succ]
        try simp only [List.getElem_cons_zero]
        try simp only [List.setIfInBounds_toArray]
        try simp only [List.set_cons_succ, List.set_cons_zero]
        refine wpAnyH_take (i := 9) (v := .pointer (some ⟨ab, ao + i * 4 + 3, none⟩)) rfl (by kernel_rfl) (by kernel_rfl) (by kernel_rfl) (fun _ _ _ h => h) (Or.inl ⟨by kernel_rfl, fun w1 hSw => by clear hHeld; obtain ⟨k2, k3⟩ := hSw; go_simp⟩) hHeld ?_
        try simp only [Act.put]
        try simp only [List.getElem_toArray]
        try simp only [List.getElem_cons_succ]
        try simp only [List.getElem_cons_zero]
        try simp only [List.setIfInBounds_toArray]
        try simp only [List.set_cons_succ, List.set_cons_zero]
        refine wpAnyH_take (i := 10) (v := .string q.tx) rfl (by kernel_rfl) (by kernel_rfl) (by kernel_rfl) (fun _ _ _ h => h) (Or.inl ⟨by kernel_rfl, fun w1 hSw => by clear hHeld; obtain ⟨k2, k3⟩ := hSw; go_simp⟩) hHeld ?_
        try simp only [Act.put]
        try simp only [List.getElem_toArray]
        try simp only [List.getElem_cons_succ]
        try simp only [List.getElem_cons_zero]
        try simp only [List.setIfInBounds_toArray]
        try simp only [List.set_cons_succ, List.set_cons_zero]
        refine wpAnyH_ready (rs := [11]) (by kernel_rfl) (by simp) ?_
        refine AllReadyH.cons rfl (fun K hK => ?_) AllReadyH.nil
        go_simp
        refine (take_any HC.out.drew.sb HC.out.ok q.n q.tx).mono ?_
        rintro e W1 ⟨v1, rfl, hr1, hw1, hm1⟩
        have HR1 := hide hr1
        obtain ⟨ad1, cap1, hv1⟩ := own_slice hr1
        subst hv1
        rw [HE.out, HO.out]
        have HC1 := hide (HC.out.drew.take (q.n) (q.tx) hw1 hm1)
        have HD1 := hide (HD.out.drew.other hm1 HNE.out.1 HNE.out.2.1 HNE.out.2.2.1 HNE.out.2.2.2 HC.out.hb HC.out.hm)
        have HS1 := hide (HRd.out _ HC1.out.bel)
        clear hr1 hw1 hm1
        refine hK.out _ _ (HS1.out) (fun hHeld => ?_)
        clear hK K
        try simp only [Act.put]
        try simp only [List.getElem_toArray]
        try simp only [List.getElem_cons_succ]
        try simp only [List.getElem_cons_zero]
        try simp only [List.setIfInBounds_toArray]
        try simp only [List.set_cons_succ, List.set_cons_zero]
        refine wpAnyH_take (i := 12) (v := .tuple #[.slice ad1 Kl cap1, .int .i64 E]) rfl (by kernel_rfl) (by kernel_rfl) (by kernel_rfl) (fun _ _ _ h => h) (Or.inl ⟨by kernel_rfl, fun w1 hSw => by clear hHeld; obtain ⟨k2, k3⟩ := hSw; go_simp⟩) hHeld ?_
        try simp only [Act.put]
        try simp only [List.getElem_toArray]
        try simp only [List.getElem_cons_succ]
        try simp only [List.getElem_cons_zero]
        try simp only [List.setIfInBounds_toArray]
        try simp only [List.set_cons_succ, List.set_cons_zero]
        refine wpAnyH_take (i := 13) (v := .slice ad1 Kl cap1) rfl (by kernel_rfl) (by kernel_rfl) (by kernel_rfl) (fun _ _ _ h => h) (Or.inl ⟨by kernel_rfl, fun w1 hSw => by clear hHeld; obtain ⟨k2, k3⟩ := hSw; go_simp⟩) hHeld ?_
        try simp only [Act.put]
        try simp only [List.getElem_toArray]
        try simp only [List.getElem_cons_succ]
        try simp only [List.getElem_cons_zero]
        try simp only [List.setIfInBounds_toArray]
        try simp only [List.set_cons_succ, List.set_cons_zero]
        refine wpAnyH_take (i := 14) (v := .int .i64 E) rfl (by kernel_rfl) (by kernel_rfl) (by kernel_rfl) (fun _ _ _ h => h) (Or.inl ⟨by kernel_rfl, fun w1 hSw => by clear hHeld; obtain ⟨k2, k3⟩ := hSw; go_simp⟩) hHeld ?_
        try simp only [Act.put]
        try simp only [List.getElem_toArray]
        try simp only [List.getElem_cons_succ]
        try simp only [List.getElem_cons_zero]
        try simp only [List.setIfInBounds_toArray]
        try simp only [List.set_cons_succ, List.set_cons_zero]
        refine wpAnyH_take (i := 15) (v := .slice ad1 Kl cap1) rfl (by kernel_rfl) (by kernel_rfl) (by kernel_rfl) (fun _ _ _ h => h) (Or.inl ⟨by kernel_rfl, fun w1 hSw => by clear hHeld; obtain ⟨k2, k3⟩ := hSw; go_simp⟩) hHeld ?_
        try simp only [Act.put]
        try simp only [List.getElem_toArray]
        try simp only [List.getElem_cons_succ]
        try simp only [List.getElem_cons_zero]
        try simp only [List.setIfInBounds_toArray]
        try simp only [List.set_cons_succ, List.set_cons_zero]
        refine wpAnyH_take (i := 16) (v := .int .i64 E) rfl (by kernel_rfl) (by kernel_rfl) (by kernel_rfl) (fun _ _ _ h => h) (Or.inl ⟨by kernel_rfl, fun w1 hSw => by clear hHeld; obtain ⟨k2, k3⟩ := hSw; go_simp⟩) hHeld ?_
        try simp only [Act.put]
        try simp only [List.getElem_toArray]
        try simp only [List.getElem_cons_succ]
        try simp only [List.getElem_cons_zero]
        try simp only [List.setIfInBounds_toArray]
        try simp only [List.set_cons_succ, List.set_cons_zero]
        refine wpAnyH_done (by kernel_rfl) ?_ _
        go_wp2_with fail
        refine wp_region_held_drew (S := fun w' => w'.cell? ⟨ab, ao + i * 4 + 2, none⟩ = some (.int .i64 q.n) ∧ w'.cell? ⟨ab, ao + i * 4 + 3, none⟩ = some (.string q.tx)) (by kernel_rfl) (HS1.out) (fun hHeld => ?_)
        refine wpAnyH_take (i := 0) (v := .pointer (some ⟨cb, 0, none⟩)) rfl (by kernel_rfl) (by kernel_rfl) (by kernel_rfl) (fun _ _ _ h => h) (Or.inl ⟨by kernel_rfl, fun w1 hSw => by clear hHeld; obtain ⟨k2, k3⟩ := hSw; go_simp⟩) hHeld ?_
        try simp only [Act.put]
        try simp only [List.getElem_toArray]
        try simp only [List.getElem_cons_succ]
        try simp only [List.getElem_cons_zero]
        try simp only [List.setIfInBounds_toArray]
        try simp only [List.set_cons_succ, List.set_cons_zero]
        refine wpAnyH_take (i := 1) (v := .slice (some ⟨ab, ao, none⟩) Q.length cap) rfl (by kernel_rfl) (by kernel_rfl) (by kernel_rfl) (fun _ _ _ h => h) (Or.inl ⟨by kernel_rfl, fun w1 hSw => by clear hHeld; obtain ⟨k2, k3⟩ := hSw; go_simp⟩) hHeld ?_
        try simp only [Act.put]
        try simp only [List.getElem_toArray]
        try simp only [List.getElem_cons_succ]
        try simp only [List.getElem_cons_zero]
        try simp only [List.setIfInBounds_toArray]
        try simp only [List.set_cons_succ, List.set_cons_zero]
        refine wpAnyH_take (i := 2) (v := .int .i64 (i : Int)) rfl (by kernel_rfl) (by kernel_rfl) (by kernel_rfl) (fun _ _ _ h => h) (Or.inl ⟨by kernel_rfl, fun w1 hSw => by clear hHeld; obtain ⟨k2, k3⟩ := hSw; go_simp⟩) hHeld ?_
        try simp only [Act.put]
        try simp only [List.getElem_toArray]
        try simp only [List.getElem_cons_succ]
        try simp only [List.getElem_cons_zero]
        try simp only [List.setIfInBounds_toArray]
        try simp only [List.set_cons_succ, List.set_cons_zero]
        refine wpAnyH_take (i := 3) (v := .pointer (some ⟨ab, ao + i * 4, none⟩)) rfl (by kernel_rfl) (by kernel_rfl) (by kernel_rfl) (fun _ _ _ h => h) (Or.inl ⟨by kernel_rfl, fun w1 hSw => by clear hHeld; obtain ⟨k2, k3⟩ := hSw; go_simp⟩) hHeld ?_
        try simp only [Act.put]
        try simp only [List.getElem_toArray]
        try simp only [List.getElem_cons_succ]
        try simp only [List.getElem_cons_zero]
        try simp only [List.setIfInBounds_toArray]
        try simp only [List.set_cons_succ, List.set_cons_zero]
        refine wpAnyH_take (i := 4) (v := .pointer (some ⟨ab, ao + i * 4 + 2, none⟩)) rfl (by kernel_rfl) (by kernel_rfl) (by kernel_rfl) (fun _ _ _ h => h) (Or.inl ⟨by kernel_rfl, fun w1 hSw => by clear hHeld; obtain ⟨k2, k3⟩ := hSw; go_simp⟩) hHeld ?_
        try simp only [Act.put]
        try simp only [List.getElem_toArray]
        try simp only [List.getElem_cons_succ]
        try simp only [List.getElem_cons_zero]
        try simp only [List.setIfInBounds_toArray]
        try simp only [List.set_cons_succ, List.set_cons_zero]
        refine wpAnyH_take (i := 5) (v := .int .i64 q.n) rfl (by kernel_rfl) (by kernel_rfl) (by kernel_rfl) (fun _ _ _ h => h) (Or.inl ⟨by kernel_rfl, fun w1 hSw => by clear hHeld; obtain ⟨k2, k3⟩ := hSw; go_simp⟩) hHeld ?_
        try simp only [Act.put]
        try simp only [List.getElem_toArray]
        try simp only [List.getElem_cons_succ]
        try simp only [List.getElem_cons_zero]
        try simp only [List.setIfInBounds_toArray]
        try simp only [List.set_cons_succ, List.set_cons_zero]
        refine wpAnyH_take (i := 6) (v := .slice (some ⟨ab, ao, none⟩) Q.length cap) rfl (by kernel_rfl) (by kernel_rfl) (by kernel_rfl) (fun _ _ _ h => h) (Or.inl ⟨by kernel_rfl, fun w1 hSw => by clear hHeld; obtain ⟨k2, k3⟩ := hSw; go_simp⟩) hHeld ?_
        try simp only [Act.put]
        try simp only [List.getElem_toArray]
        try simp only [List.getElem_cons_succ]
        try simp only [List.getElem_cons_zero]
        try simp only [List.setIfInBounds_toArray]
        try simp only [List.set_cons_succ, List.set_cons_zero]
        refine wpAnyH_take (i := 7) (v := .int .i64 (i : Int)) rfl (by kernel_rfl) (by kernel_rfl) (by kernel_rfl) (fun _ _ _ h => h) (Or.inl ⟨by kernel_rfl, fun w1 hSw => by clear hHeld; obtain ⟨k2, k3⟩ := hSw; go_simp⟩) hHeld ?_
        try simp only [Act.put]
        try simp only [List.getElem_toArray]
        try simp only [List.getElem_cons_succ]
        try simp only [List.getElem_cons_zero]
        try simp only [List.setIfInBounds_toArray]
        try simp only [List.set_cons_succ, List.set_cons_zero]
        refine wpAnyH_take (i := 8) (v := .pointer (some ⟨ab, ao + i * 4, none⟩)) rfl (by kernel_rfl) (by kernel_rfl) (by kernel_rfl) (fun _ _ _ h => h) (Or.inl ⟨by kernel_rfl, fun w1 hSw => by clear hHeld; obtain ⟨k2, k3⟩ := hSw; go_simp⟩) hHeld ?_
        try simp only [Act.put]
        try simp only [List.getElem_toArray]
        try simp only [List.getElem_cons_succ]
        try simp only [List.getElem_cons_zero]
        try simp only [List.setIfInBounds_toArray]
        try simp only [List.set_cons_succ, List.set_cons_zero]
        refine wpAnyH_take (i := 9) (v := .pointer (some ⟨ab, ao + i * 4 + 3, none⟩)) rfl (by kernel_rfl) (by kernel_rfl) (by kernel_rfl) (fun _ _ _ h => h) (Or.inl ⟨by kernel_rfl, fun w1 hSw => by clear hHeld; obtain ⟨k2, k3⟩ := hSw; go_simp⟩) hHeld ?_
        try simp only [Act.put]
        try simp only [List.getElem_toArray]
        try simp only [List.getElem_cons_succ]
        try simp only [List.getElem_cons_zero]
        try simp only [List.setIfInBounds_toArray]
        try simp only [List.set_cons_succ, List.set_cons_zero]
        refine wpAnyH_take (i := 10) (v := .string q.tx) rfl (by kernel_rfl) (by kernel_rfl) (by kernel_rfl) (fun _ _ _ h => h) (Or.inl ⟨by kernel_rfl, fun w1 hSw => by clear hHeld; obtain ⟨k2, k3⟩ := hSw; go_simp⟩) hHeld ?_
        try simp only [Act.put]
        try simp only [List.getElem_toArray]
        try simp only [List.getElem_cons_succ]
        try simp only [List.getElem_cons_zero]
        try simp only [List.setIfInBounds_toArray]
        try simp only [List.set_cons_succ, List.set_cons_zero]
        refine wpAnyH_ready (rs := [11]) (by kernel_rfl) (by simp) ?_
        refine AllReadyH.cons rfl (fun K hK => ?_) AllReadyH.nil
        go_simp
        refine (take_any HD1.out.drew.sb HD1.out.ok q.n q.tx).mono ?_
        rintro e W2 ⟨v2, rfl, hr2, hw2, hm2⟩
        have HR2 := hide hr2
        obtain ⟨ad2, cap2, hv2⟩ := own_slice hr2
        subst hv2
        rw [HE.out, HO.out]
        have HD2 := hide (HD1.out.drew.take (q.n) (q.tx) hw2 hm2)
        have HC2 := hide (HC1.out.drew.other hm2 (Ne.symm HNE.out.1) (Ne.symm HNE.out.2.2.1) (Ne.symm HNE.out.2.1) (Ne.symm HNE.out.2.2.2) HD.out.hb HD.out.hm)
        have HS2 := hide (HRd.out _ HC2.out.bel)
        clear hr2 hw2 hm2
        refine hK.out _ _ (HS2.out) (fun hHeld => ?_)
        clear hK K
        try simp only [Act.put]
        try simp only [List.getElem_toArray]
        try simp only [List.getElem_cons_succ]
        try simp only [List.getElem_cons_zero]
        try simp only [List.setIfInBounds_toArray]
        try simp only [List.set_cons_succ, List.set_cons_zero]
        refine wpAnyH_take (i := 12) (v := .tuple #[.slice ad2 Kl cap2, .int .i64 E]) rfl (by kernel_rfl) (by kernel_rfl) (by kernel_rfl) (fun _ _ _ h => h) (Or.inl ⟨by kernel_rfl, fun w1 hSw => by clear hHeld; obtain ⟨k2, k3⟩ := hSw; go_simp⟩) hHeld ?_
        try simp only [Act.put]
        try simp only [List.getElem_toArray]
        try simp only [List.getElem_cons_succ]
        try simp only [List.getElem_cons_zero]
        try simp only [List.setIfInBounds_toArray]
        try simp only [List.set_cons_succ, List.set_cons_zero]
        refine wpAnyH_take (i := 13) (v := .slice ad2 Kl cap2) rfl (by kernel_rfl) (by kernel_rfl) (by kernel_rfl) (fun _ _ _ h => h) (Or.inl ⟨by kernel_rfl, fun w1 hSw => by clear hHeld; obtain ⟨k2, k3⟩ := hSw; go_simp⟩) hHeld ?_
        try simp only [Act.put]
        try simp only [List.getElem_toArray]
        try simp only [List.getElem_cons_succ]
        try simp only [List.getElem_cons_zero]
        try simp only [List.setIfInBounds_toArray]
        try simp only [List.set_cons_succ, List.set_cons_zero]
        refine wpAnyH_take (i := 14) (v := .int .i64 E) rfl (by kernel_rfl) (by kernel_rfl) (by kernel_rfl) (fun _ _ _ h => h) (Or.inl ⟨by kernel_rfl, fun w1 hSw => by clear hHeld; obtain ⟨k2, k3⟩ := hSw; go_simp⟩) hHeld ?_
        try simp only [Act.put]
        try simp only [List.getElem_toArray]
        try simp only [List.getElem_cons_succ]
        try simp only [List.getElem_cons_zero]
        try simp only [List.setIfInBounds_toArray]
        try simp only [List.set_cons_succ, List.set_cons_zero]
        refine wpAnyH_take (i := 15) (v := .slice ad2 Kl cap2) rfl (by kernel_rfl) (by kernel_rfl) (by kernel_rfl) (fun _ _ _ h => h) (Or.inl ⟨by kernel_rfl, fun w1 hSw => by clear hHeld; obtain ⟨k2, k3⟩ := hSw; go_simp⟩) hHeld ?_
        try simp only [Act.put]
        try simp only [List.getElem_toArray]
        try simp only [List.getElem_cons_succ]
        try simp only [List.getElem_cons_zero]
        try simp only [List.setIfInBounds_toArray]
        try simp only [List.set_cons_succ, List.set_cons_zero]
        refine wpAnyH_take (i := 16) (v := .int .i64 E) rfl (by kernel_rfl) (by kernel_rfl) (by kernel_rfl) (fun _ _ _ h => h) (Or.inl ⟨by kernel_rfl, fun w1 hSw => by clear hHeld; obtain ⟨k2, k3⟩ := hSw; go_simp⟩) hHeld ?_
        try simp only [Act.put]
        try simp only [List.getElem_toArray]
        try simp only [List.getElem_cons_succ]
        try simp only [List.getElem_cons_zero]
        try simp only [List.setIfInBounds_toArray]
        try simp only [List.set_cons_succ, List.set_cons_zero]
        refine wpAnyH_done (by kernel_rfl) ?_ _
        have HAg : Hid (E ≠ 152 → (s.tk q.n q.tx).out q.n bX = [] ∧ (s.tk q.n q.tx).tk q.n bX = s.tk q.n q.tx ∧ ((s.tk q.n q.tx).bad q.n bX = 0 → E = 0 ∧ Kl = 0)) := hide fun h => by
          obtain ⟨h1, h2, h3⟩ := s.again HD.out.ok (i := q.n) (t := q.tx) (by rw [HE.out]; exact h)
          refine ⟨h1, h2, fun e => ?_⟩
          obtain ⟨h4, h5⟩ := h3 e
          refine ⟨by rw [← HE.out]; exact h4, ?_⟩
          rw [← HO.out, h5]; rfl
        clear HC HD HC1 HD1 HS0 HS1 HS2 HR1 HR2 HE HO HNE
        generalize s.tk q.n q.tx = r at *
        go_wp2_with fail
        refine (next_any HC2.out.sb).mono ?_
        rintro e y1 ⟨rfl, rfl⟩
        go_wp2_with fail
        refine (next_any HD2.out.sb).mono ?_
        rintro e y2 ⟨rfl, rfl⟩
        by_cases h152 : E = 152
        · subst h152
          go_wp2_with fail
          go_roundw
          case rel => exact ⟨i + 1, r, by omega, by go_num, HC2⟩
          case measure => simp only [intOf]; omega
        · have e152 : (E == 152) = false := by simpa using h152
          obtain ⟨a1, a2, a3⟩ := HAg.out h152
          have HA1 := hide a1
          have HA2 := hide a2
          have HA3 := hide a3
          clear HAg a1 a2 a3 h152 HD2
          go_wp2_with fail
          refine (held_any HC2.out.sb (by have := HC2.out.ok.len8; omega)).mono ?_
          rintro e W3 ⟨v3, rfl, hr3, hb3⟩
          obtain ⟨ad3, cap3, hv3⟩ := own_slice hr3
          subst hv3
          have HC3 := hide (HC2.out.below hb3)
          obtain ⟨N3, hN3⟩ : ∃ N3, r.L.length = N3 := ⟨_, rfl⟩
          rw [hN3]
          have HN3 := hide hN3
          clear hr3 hb3 hN3
          go_wp2_with fail
          refine (next_any HC3.out.sb).mono ?_
          rintro e y3 ⟨rfl, rfl⟩
          have k2 := (HRd.out _ HC3.out.bel).1
          go_wp2_with fail
          refine (take_any HC3.out.sb HC3.out.ok q.n bX).mono ?_
          rintro e W4 ⟨v4, rfl, hr4, hw4, hm4⟩
          rw [HA1.out] at hr4
          have HC4 := hide (HC3.out.take q.n bX hw4 hm4)
          rw [HA2.out] at HC4
          obtain ⟨ad4, cap4, hv4⟩ := own_slice hr4
          subst hv4
          obtain ⟨E4, hE4⟩ : ∃ E4, r.bad q.n bX = E4 := ⟨_, rfl⟩
          rw [hE4] at HA3 ⊢
          simp only [List.length_nil]
          clear hr4 hw4 hm4 hE4 k2
          go_wp2_with fail
          refine (held_any HC4.out.sb (by have := HC4.out.ok.len8; omega)).mono ?_
          rintro e W5 ⟨v5, rfl, hr5, hb5⟩
          obtain ⟨ad5, cap5, hv5⟩ := own_slice hr5
          subst hv5
          have HC5 := hide (HC4.out.below hb5)
          rw [HN3.out]
          clear hr5 hb5
          go_wp2_with fail
          refine (next_any HC5.out.sb).mono ?_
          rintro e y5 ⟨rfl, rfl⟩
          by_cases h4 : E4 = 0
          · obtain ⟨rfl, rfl⟩ := HA3.out h4
            subst h4
            go_wp2_with fail
            go_roundw
            case rel => exact ⟨i + 1, r, by omega, by go_num, HC5⟩
            case measure => simp only [intOf]; omega
          · have e4 : (E4 == 0) = false := by simpa using h4
            clear h4
            go_wp2_with fail
            go_roundw
            case rel => exact ⟨i + 1, r, by omega, by go_num, HC5⟩
            case measure => simp only [intOf]; omega
      · go_wp2_with fail
        go_ret
        exact ⟨rfl, HC0.out.bel⟩
end Go.Proofs.Ytmkfhcdmcncgkaa
