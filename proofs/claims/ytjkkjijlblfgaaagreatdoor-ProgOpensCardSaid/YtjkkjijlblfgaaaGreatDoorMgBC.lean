import Derived.Test.YtjkkjijlblfgaaaGreatDoorMgBB

section
namespace Go.Proofs.YtjkkjijlblfgaaaGreatDoor
open Go.RowKit Go.Shelf

theorem setF_fits {x : In} (hx : x.Fits) (l v : Nat) (hv : v ≤ 64) : (Pg.setF x l v).Fits := by
  unfold Pg.setF
  obtain ⟨h1, h2, h3, h4, h5, h6⟩ := hx
  repeat' split
  all_goals exact ⟨by first | assumption | (simp only []; omega), by first | assumption | (simp only []; omega), by first | assumption | (simp only []; omega), by first | assumption | (simp only []; omega), by first | assumption | (simp only []; omega), by first | assumption | (simp only []; omega)⟩
theorem fldS_fits (b : ByteArray) {x : In} (hx : x.Fits) (l : Nat) {s : Nat × Nat} (hs : s.1 ≤ b.size) : (Pg.fldS b x l s).1.Fits ∧ (Pg.fldS b x l s).2.1 ≤ b.size := by
  unfold Pg.fldS
  split
  · exact ⟨⟨hx.op, hx.a, hx.b, hx.c, hx.n, (bitsS_le b s hs).1⟩, (bitsS_le b s hs).2⟩
  · exact ⟨setF_fits hx l _ (numS_le b 64 s hs).1, (numS_le b 64 s hs).2⟩
theorem flds_fits (b : ByteArray) : ∀ (l : List UInt8) (x : In) (s : Nat × Nat), x.Fits → s.1 ≤ b.size → (Pg.fldsS b l (x, s)).1.Fits
  | [], _, _, hx, _ => hx
  | c :: t, x, s, hx, hs => by
    have e : Pg.fldsS b (c :: t) (x, s) = Pg.fldsS b t ((Pg.fldS b x c.toNat s).1, (Pg.fldS b x c.toNat s).2) := rfl
    rw [e]
    have h := fldS_fits b hx c.toNat hs
    exact flds_fits b t _ _ h.1 h.2
theorem flds_op (b : ByteArray) : ∀ (l : List UInt8) (x : In) (s : Nat × Nat), (Pg.fldsS b l (x, s)).1.op = x.op
  | [], _, _ => rfl
  | c :: t, x, s => by
    have e : Pg.fldsS b (c :: t) (x, s) = Pg.fldsS b t ((Pg.fldS b x c.toNat s).1, (Pg.fldS b x c.toNat s).2) := rfl
    rw [e, flds_op b t]
    unfold Pg.fldS
    split
    · rfl
    · unfold Pg.setF
      repeat' split
      all_goals rfl
theorem fl_low : ∀ n : Fin 25, (Pg.shape ((n.val : Nat) : Int)).1.flds.data.toList = Pg.fl (Pg.hasP ((n.val : Nat) : Int)) := by decide
theorem bad_reg {x : In} (hx : x.Fits) {i : Nat} (hi : i < 3) (hr : i < (Pg.hasP x.op).1) (hv : 7 < Pg.abc x i) (many : Nat) (hm : many ≤ 64) : Pg.insE x many ≠ 0 := by
  rw [insE_ref x hx many hm]
  split
  · decide
  · intro e
    obtain ⟨ha, hb, hc, _, _⟩ := wrong_zero e
    have h1 := (reg_ok ha).2.1
    have h2 := (reg_ok hb).2.1
    have h3 := (reg_ok hc).2.1
    match i, hi with
    | 0, _ => have : Pg.abc x 0 = x.a := rfl; omega
    | 1, _ => have : Pg.abc x 1 = x.b := rfl; omega
    | 2, _ => have : Pg.abc x 2 = x.c := rfl; omega
theorem flds_cmp (b : ByteArray) (op : Int) (h0 : 0 ≤ op ∧ op ≤ 24) (s : Nat × Nat) (hs : s.2 = 0) (hp : s.1 ≤ b.size) :
    Pg.rfS b op (Pg.hasP op) s = Pg.fldsS b (Pg.fl (Pg.hasP op)) (⟨op, 0, 0, 0, 0, 0⟩, s) ∨ ((Pg.rfS b op (Pg.hasP op) s).2.2 ≠ 0 ∧ ((Pg.fldsS b (Pg.fl (Pg.hasP op)) (⟨op, 0, 0, 0, 0, 0⟩, s)).2.2 ≠ 0 ∨ ∀ many, many ≤ 64 → Pg.insE (Pg.fldsS b (Pg.fl (Pg.hasP op)) (⟨op, 0, 0, 0, 0, 0⟩, s)).1 many ≠ 0)) := by
  have hf : (Pg.fldsS b (Pg.fl (Pg.hasP op)) (⟨op, 0, 0, 0, 0, 0⟩, s)).1.Fits := flds_fits b _ _ s ⟨by simp only []; omega, by simp, by simp, by simp, by simp, by simp⟩ hp
  have ho := flds_op b (Pg.fl (Pg.hasP op)) ⟨op, 0, 0, 0, 0, 0⟩ s
  have hbad : ∀ i, i < 3 → i < (Pg.hasP op).1 → 7 < Pg.abc (Pg.fldsS b (Pg.fl (Pg.hasP op)) (⟨op, 0, 0, 0, 0, 0⟩, s)).1 i → ∀ many, many ≤ 64 → Pg.insE (Pg.fldsS b (Pg.fl (Pg.hasP op)) (⟨op, 0, 0, 0, 0, 0⟩, s)).1 many ≠ 0 := fun i hi hr hv => bad_reg hf hi (by rw [ho]; exact hr) hv
  clear hf ho
  rcases has_all' op with e | e | e | e | e | e | e <;> rw [e] at hbad ⊢ <;> clear e
  · have E : Pg.fldsS b (Pg.fl (1, false, true)) (⟨op, 0, 0, 0, 0, 0⟩, s) = (⟨op, ((Pg.numS b 64 s).1 : Int), 0, 0, 0, (Pg.bitsS b (Pg.numS b 64 s).2).1⟩, (Pg.bitsS b (Pg.numS b 64 s).2).2) := by simp [Pg.fl, Pg.fldsS, Pg.fldS, Pg.setF]
    have D : Pg.rfS b op (1, false, true) s = (⟨op, ((Pg.numS b 7 s).1 : Int), 0, 0, 0, (Pg.bitsS b (Pg.numS b 7 s).2).1⟩, (Pg.bitsS b (Pg.numS b 7 s).2).2) := by simp [Pg.rfS, Pg.ra, Pg.rv, Pg.rs, Pg.rn, Pg.rk]
    rw [E] at hbad ⊢
    rw [D]
    rcases numS_two b (m := 7) (by decide) s hs with e | ⟨e1, e2 | e2⟩
    · rw [e]; exact .inl rfl
    · exact .inr ⟨by simp only [bitsS_dead b e1]; exact e1, .inl (by simp only [bitsS_dead b e2]; exact e2)⟩
    · exact .inr ⟨by simp only [bitsS_dead b e1]; exact e1, .inr (hbad 0 (by decide) (by decide) (by show (7 : Int) < ((Pg.numS b 64 s).1 : Int); omega))⟩
  · have E : Pg.fldsS b (Pg.fl (2, false, false)) (⟨op, 0, 0, 0, 0, 0⟩, s) = (⟨op, ((Pg.numS b 64 s).1 : Int), ((Pg.numS b 64 (Pg.numS b 64 s).2).1 : Int), 0, 0, 0⟩, (Pg.numS b 64 (Pg.numS b 64 s).2).2) := by simp [Pg.fl, Pg.fldsS, Pg.fldS, Pg.setF]
    have D : Pg.rfS b op (2, false, false) s = (⟨op, ((Pg.numS b 7 s).1 : Int), ((Pg.numS b 7 (Pg.numS b 7 s).2).1 : Int), 0, 0, 0⟩, (Pg.numS b 7 (Pg.numS b 7 s).2).2) := by simp [Pg.rfS, Pg.ra, Pg.rv, Pg.rs, Pg.rn, Pg.rk]
    rw [E] at hbad ⊢
    rw [D]
    rcases numS_two b (m := 7) (by decide) s hs with e | ⟨e1, e2 | e2⟩
    · rw [e]
      by_cases h1 : (Pg.numS b 64 s).2.2 = 0
      · rcases numS_two b (m := 7) (by decide) (Pg.numS b 64 s).2 h1 with e | ⟨e1, e2 | e2⟩
        · rw [e]; exact .inl rfl
        · exact .inr ⟨e1, .inl e2⟩
        · exact .inr ⟨e1, .inr (hbad 1 (by decide) (by decide) (by show (7 : Int) < ((Pg.numS b 64 (Pg.numS b 64 s).2).1 : Int); omega))⟩
      · rw [numS_dead b 7 h1, numS_dead b 64 h1]; exact .inl rfl
    · exact .inr ⟨by simp only [numS_dead b 7 e1]; exact e1, .inl (by simp only [numS_dead b 64 e2]; exact e2)⟩
    · exact .inr ⟨by simp only [numS_dead b 7 e1]; exact e1, .inr (hbad 0 (by decide) (by decide) (by show (7 : Int) < ((Pg.numS b 64 s).1 : Int); omega))⟩
  · have E : Pg.fldsS b (Pg.fl (3, false, false)) (⟨op, 0, 0, 0, 0, 0⟩, s) = (⟨op, ((Pg.numS b 64 s).1 : Int), ((Pg.numS b 64 (Pg.numS b 64 s).2).1 : Int), ((Pg.numS b 64 (Pg.numS b 64 (Pg.numS b 64 s).2).2).1 : Int), 0, 0⟩, (Pg.numS b 64 (Pg.numS b 64 (Pg.numS b 64 s).2).2).2) := by simp [Pg.fl, Pg.fldsS, Pg.fldS, Pg.setF]
    have D : Pg.rfS b op (3, false, false) s = (⟨op, ((Pg.numS b 7 s).1 : Int), ((Pg.numS b 7 (Pg.numS b 7 s).2).1 : Int), ((Pg.numS b 7 (Pg.numS b 7 (Pg.numS b 7 s).2).2).1 : Int), 0, 0⟩, (Pg.numS b 7 (Pg.numS b 7 (Pg.numS b 7 s).2).2).2) := by simp [Pg.rfS, Pg.ra, Pg.rv, Pg.rs, Pg.rn, Pg.rk]
    rw [E] at hbad ⊢
    rw [D]
    rcases numS_two b (m := 7) (by decide) s hs with e | ⟨e1, e2 | e2⟩
    · rw [e]
      by_cases h1 : (Pg.numS b 64 s).2.2 = 0
      · rcases numS_two b (m := 7) (by decide) (Pg.numS b 64 s).2 h1 with e | ⟨e1, e2 | e2⟩
        · rw [e]
          by_cases h2 : (Pg.numS b 64 (Pg.numS b 64 s).2).2.2 = 0
          · rcases numS_two b (m := 7) (by decide) (Pg.numS b 64 (Pg.numS b 64 s).2).2 h2 with e | ⟨e1, e2 | e2⟩
            · rw [e]; exact .inl rfl
            · exact .inr ⟨e1, .inl e2⟩
            · exact .inr ⟨e1, .inr (hbad 2 (by decide) (by decide) (by show (7 : Int) < ((Pg.numS b 64 (Pg.numS b 64 (Pg.numS b 64 s).2).2).1 : Int); omega))⟩
          · rw [numS_dead b 7 h2, numS_dead b 64 h2]; exact .inl rfl
        · exact .inr ⟨by simp only [numS_dead b 7 e1]; exact e1, .inl (by simp only [numS_dead b 64 e2]; exact e2)⟩
        · exact .inr ⟨by simp only [numS_dead b 7 e1]; exact e1, .inr (hbad 1 (by decide) (by decide) (by show (7 : Int) < ((Pg.numS b 64 (Pg.numS b 64 s).2).1 : Int); omega))⟩
      · rw [numS_dead b 7 h1, numS_dead b 64 h1, numS_dead b 7 h1, numS_dead b 64 h1]; exact .inl rfl
    · exact .inr ⟨by simp only [numS_dead b 7 e1]; exact e1, .inl (by simp only [numS_dead b 64 e2]; exact e2)⟩
    · exact .inr ⟨by simp only [numS_dead b 7 e1]; exact e1, .inr (hbad 0 (by decide) (by decide) (by show (7 : Int) < ((Pg.numS b 64 s).1 : Int); omega))⟩
  · exact .inl (by simp [Pg.fl, Pg.fldsS, Pg.fldS, Pg.setF, Pg.rfS, Pg.ra, Pg.rs, Pg.rn, Pg.rk])
  · have E : Pg.fldsS b (Pg.fl (1, true, false)) (⟨op, 0, 0, 0, 0, 0⟩, s) = (⟨op, ((Pg.numS b 64 s).1 : Int), 0, 0, ((Pg.numS b 64 (Pg.numS b 64 s).2).1 : Int), 0⟩, (Pg.numS b 64 (Pg.numS b 64 s).2).2) := by simp [Pg.fl, Pg.fldsS, Pg.fldS, Pg.setF]
    have D : Pg.rfS b op (1, true, false) s = (⟨op, ((Pg.numS b 7 s).1 : Int), 0, 0, ((Pg.numS b 64 (Pg.numS b 7 s).2).1 : Int), 0⟩, (Pg.numS b 64 (Pg.numS b 7 s).2).2) := by simp [Pg.rfS, Pg.ra, Pg.rv, Pg.rs, Pg.rn, Pg.rk]
    rw [E] at hbad ⊢
    rw [D]
    rcases numS_two b (m := 7) (by decide) s hs with e | ⟨e1, e2 | e2⟩
    · rw [e]; exact .inl rfl
    · exact .inr ⟨by simp only [numS_dead b 64 e1]; exact e1, .inl (by simp only [numS_dead b 64 e2]; exact e2)⟩
    · exact .inr ⟨by simp only [numS_dead b 64 e1]; exact e1, .inr (hbad 0 (by decide) (by decide) (by show (7 : Int) < ((Pg.numS b 64 s).1 : Int); omega))⟩
  · have E : Pg.fldsS b (Pg.fl (1, false, false)) (⟨op, 0, 0, 0, 0, 0⟩, s) = (⟨op, ((Pg.numS b 64 s).1 : Int), 0, 0, 0, 0⟩, (Pg.numS b 64 s).2) := by simp [Pg.fl, Pg.fldsS, Pg.fldS, Pg.setF]
    have D : Pg.rfS b op (1, false, false) s = (⟨op, ((Pg.numS b 7 s).1 : Int), 0, 0, 0, 0⟩, (Pg.numS b 7 s).2) := by simp [Pg.rfS, Pg.ra, Pg.rv, Pg.rs, Pg.rn, Pg.rk]
    rw [E] at hbad ⊢
    rw [D]
    rcases numS_two b (m := 7) (by decide) s hs with e | ⟨e1, e2 | e2⟩
    · rw [e]; exact .inl rfl
    · exact .inr ⟨e1, .inl e2⟩
    · exact .inr ⟨e1, .inr (hbad 0 (by decide) (by decide) (by show (7 : Int) < ((Pg.numS b 64 s).1 : Int); omega))⟩
  · exact .inl (by simp [Pg.fl, Pg.fldsS, Pg.rfS, Pg.ra, Pg.rs, Pg.rn, Pg.rk])
theorem ins_cmp (b : ByteArray) (s : Nat × Nat) (hs : s.2 = 0) (hp : s.1 ≤ b.size) :
    Pg.rinsS b s = Pg.insS b s ∨ ((Pg.rinsS b s).2.2 ≠ 0 ∧ ((Pg.insS b s).2.2 ≠ 0 ∨ ∀ many, many ≤ 64 → Pg.insE (Pg.insS b s).1 many ≠ 0)) := by
  unfold Pg.rinsS Pg.insS
  have hle := numS_le b 64 s hp
  rcases numS_two b (m := 24) (by decide) s hs with e | ⟨e1, e2 | e2⟩
  · have h24 : (Pg.numS b 64 s).1 ≤ 24 := by rw [← e]; exact (numS_le b 24 s hp).1
    rw [e]
    have hfl : (Pg.shape (((Pg.numS b 64 s).1 : Nat) : Int)).1.flds.data.toList = Pg.fl (Pg.hasP (((Pg.numS b 64 s).1 : Nat) : Int)) := fl_low ⟨(Pg.numS b 64 s).1, by omega⟩
    rw [hfl]
    by_cases h1 : (Pg.numS b 64 s).2.2 = 0
    · exact flds_cmp b _ (by omega) _ h1 hle.2
    · exact .inr ⟨by rw [rfS_dead b _ _ h1]; exact h1, .inl (by rw [fldsS_dead b _ _ _ h1]; exact h1)⟩
  · exact .inr ⟨by rw [rfS_dead b _ _ e1]; exact e1, .inl (by rw [fldsS_dead b _ _ _ e2]; exact e2)⟩
  · refine .inr ⟨by rw [rfS_dead b _ _ e1]; exact e1, .inr fun many _ => ?_⟩
    unfold Pg.insE
    rw [flds_op, shape_none (((Pg.numS b 64 s).1 : Nat) : Int) (fun h => by omega)]
    simp
theorem manyS_mem (b : ByteArray) : ∀ (n : Nat) (s : Nat × Nat) (acc : List In), ∀ x ∈ acc, x ∈ (Pg.manyS b n s acc).1
  | 0, _, _, _, h => h
  | n + 1, s, acc, x, h => by rw [manyS_succ]; exact manyS_mem b n _ _ x (List.mem_append_left _ h)
theorem many_cmp (b : ByteArray) : ∀ (n : Nat) (s : Nat × Nat) (acc : List In), s.1 ≤ b.size →
    Pg.rmanyS b n s acc = Pg.manyS b n s acc ∨ ((Pg.rmanyS b n s acc).2.2 ≠ 0 ∧ ((Pg.manyS b n s acc).2.2 ≠ 0 ∨ ∃ x ∈ (Pg.manyS b n s acc).1, ∀ many, many ≤ 64 → Pg.insE x many ≠ 0))
  | 0, _, _, _ => .inl rfl
  | n + 1, s, acc, hp => by
    have e : Pg.rmanyS b (n + 1) s acc = if s.2 ≠ 0 then (acc, s) else Pg.rmanyS b n (Pg.rinsS b s).2 (acc ++ [(Pg.rinsS b s).1]) := rfl
    rw [e]
    by_cases hs : s.2 = 0
    · rw [if_neg (by simp [hs]), manyS_succ]
      rcases ins_cmp b s hs hp with h | ⟨h1, h2⟩
      · rw [h]
        exact many_cmp b n _ _ (insS_le b s hp).1
      · have hr : (Pg.rmanyS b n (Pg.rinsS b s).2 (acc ++ [(Pg.rinsS b s).1])).2.2 ≠ 0 := by
          match n with
          | 0 => exact h1
          | m + 1 =>
            have e : Pg.rmanyS b (m + 1) (Pg.rinsS b s).2 (acc ++ [(Pg.rinsS b s).1]) = if (Pg.rinsS b s).2.2 ≠ 0 then (acc ++ [(Pg.rinsS b s).1], (Pg.rinsS b s).2) else Pg.rmanyS b m (Pg.rinsS b (Pg.rinsS b s).2).2 (acc ++ [(Pg.rinsS b s).1] ++ [(Pg.rinsS b (Pg.rinsS b s).2).1]) := rfl
            rw [e, if_pos h1]
            exact h1
        refine .inr ⟨hr, ?_⟩
        rcases h2 with h2 | h2
        · exact .inl (by rw [manyS_dead b n _ _ h2]; exact h2)
        · exact .inr ⟨_, manyS_mem b n _ _ _ (List.mem_append_right _ (List.mem_singleton.2 rfl)), h2⟩
    · rw [if_pos hs]
      exact .inr ⟨hs, .inl (by rw [manyS_dead b (n + 1) s acc hs]; exact hs)⟩
theorem endE_no {b : ByteArray} {p f : Int} (h : f ≠ 0) : endE b p f ≠ 0 := by
  unfold endE
  rw [if_neg (fun h2 => h h2.1)]
  exact h
theorem runpack_eq (b : ByteArray) : Pg.runpackS b = Pg.unpackS b := by
  unfold Pg.runpackS Pg.unpackS
  by_cases hl : 1024 < b.size
  · rw [if_pos hl, if_pos hl]
  rw [if_neg hl, if_neg hl]
  have h1 := numS_le b 1024 (0, 0) (Nat.zero_le _)
  have h2 := listS_le b 64 (Pg.numS b 1024 (0, 0)).2 h1.2
  have hlen := (manyS_le b (Pg.listS b 64 (Pg.numS b 1024 (0, 0)).2).1 (Pg.listS b 64 (Pg.numS b 1024 (0, 0)).2).2 [] h2.2 (fun x hx => by cases hx)).2.2
  rcases many_cmp b (Pg.listS b 64 (Pg.numS b 1024 (0, 0)).2).1 (Pg.listS b 64 (Pg.numS b 1024 (0, 0)).2).2 [] h2.2 with h | ⟨h3, h4⟩
  · have e : Pg.rrowS b = Pg.rowS b := h
    rw [e]
    by_cases ha : endE b ((Pg.rowS b).2.1 : Int) ((Pg.rowS b).2.2 : Int) ≠ 0
    · rw [if_pos (.inl ha), if_pos ha]
    · rw [if_neg ha]
      by_cases hc : (Pg.checkE ((Pg.numS b 1024 (0, 0)).1 : Int) (Pg.rowS b).1).1 ≠ 0
      · rw [if_pos (.inr hc), if_pos hc]
      · rw [if_neg (fun h => h.elim ha hc), if_neg hc]
  · have hr : (Pg.rrowS b).2.2 ≠ 0 := h3
    rw [if_pos (.inl (endE_no (by omega)))]
    by_cases ha : endE b ((Pg.rowS b).2.1 : Int) ((Pg.rowS b).2.2 : Int) ≠ 0
    · rw [if_pos ha]
    · rw [if_neg ha]
      have hf : (Pg.rowS b).2.2 = 0 := by
        by_cases hz : (Pg.rowS b).2.2 = 0
        · exact hz
        · exact absurd (endE_no (by omega)) ha
      rcases h4 with h4 | ⟨x, hx, h4⟩
      · exact absurd hf h4
      · have hx' : x ∈ (Pg.rowS b).1 := hx
        have hlen' : (Pg.rowS b).1.length ≤ 64 := by
          have : (Pg.rowS b).1.length = ([] : List In).length + (Pg.listS b 64 (Pg.numS b 1024 (0, 0)).2).1 := hlen
          rw [this]
          simpa using h2.1
        by_cases hc : (Pg.checkE ((Pg.numS b 1024 (0, 0)).1 : Int) (Pg.rowS b).1).1 = 0
        · exact absurd (check_ins _ _ hc x hx') (h4 _ hlen')
        · rw [if_pos hc]
end Go.Proofs.YtjkkjijlblfgaaaGreatDoor
end
