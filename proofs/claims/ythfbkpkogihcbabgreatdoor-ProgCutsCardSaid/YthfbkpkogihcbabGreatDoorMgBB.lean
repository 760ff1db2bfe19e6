import Derived.Test.YthfbkpkogihcbabGreatDoorMgBA

section
namespace Go.Proofs.YthfbkpkogihcbabGreatDoor
open Go.RowKit Go.Shelf

theorem idx_split (c : UInt8) : ∀ (l : List UInt8), ¬ Lib.indexByte l c < 0 → l = l.take (Lib.indexByte l c).toNat ++ c :: l.drop ((Lib.indexByte l c).toNat + 1)
  | [], h => absurd (show (-1 : Int) < 0 by decide) h
  | d :: l, h => by
    have e : Lib.indexByte (d :: l) c = if d == c then 0 else if Lib.indexByte l c == -1 then -1 else Lib.indexByte l c + 1 := rfl
    by_cases hd : d = c
    · subst hd
      rw [e, if_pos (by simp)]
      rfl
    · rw [e, if_neg (by simpa using hd)] at h ⊢
      by_cases hn : Lib.indexByte l c = -1
      · rw [if_pos (by simpa using hn)] at h; exact absurd (by decide) h
      · rw [if_neg (by simpa using hn)] at h ⊢
        have hge := Lib.indexByte_ge l c
        have ih := idx_split c l (by omega)
        rw [show (Lib.indexByte l c + 1).toNat = (Lib.indexByte l c).toNat + 1 by omega, List.take_succ_cons, List.drop_succ_cons, List.cons_append]
        exact congrArg (d :: ·) ih
theorem ext_data (s : ByteArray) (a b : Nat) : (s.extract a b).data.toList = (s.data.toList.drop a).take (b - a) := by
  rw [ByteArray.data_extract, Array.toList_extract, List.extract_eq_take_drop]
theorem ext_end (s : ByteArray) (a : Nat) : (s.extract a s.size).data.toList = s.data.toList.drop a := by
  rw [ext_data, List.take_of_length_le]
  rw [List.length_drop, Array.length_toList]
  exact Nat.le_refl _
theorem split_back : ∀ (n : Nat) (s : ByteArray), ∃ w ws, Pg.splitW n s = w :: ws ∧ s.data.toList = w.data.toList ++ ws.flatMap (fun u => 32 :: u.data.toList)
  | 0, s => ⟨s, [], rfl, by simp⟩
  | n + 1, s => by
    unfold Pg.splitW
    by_cases h : Lib.indexByte s.data.toList 32 < 0
    · rw [if_pos h]; exact ⟨s, [], rfl, by simp⟩
    · rw [if_neg h]
      obtain ⟨w, ws, h1, h2⟩ := split_back n (s.extract ((Lib.indexByte s.data.toList 32).toNat + 1) s.size)
      refine ⟨_, _, rfl, ?_⟩
      rw [h1, List.flatMap_cons, List.cons_append, ← h2, ext_end, ext_data, List.drop_zero, Nat.sub_zero]
      exact idx_split 32 _ h
theorem num_txt {s : ByteArray} (h : (Pg.numP s).2 = true) : s = ⟨(Lib.decDigits (Pg.numP s).1).toArray⟩ := by
  unfold Pg.numP at h ⊢
  by_cases h9 : 9 < s.size
  · rw [if_pos h9] at h; cases h
  rw [if_neg h9] at h ⊢
  cases hp : Lib.parseUintB 64 s.data.toList with
  | ok u =>
    rw [hp] at h
    have h1 : (⟨(Lib.decDigits u).toArray⟩ : ByteArray).toList = s.toList := by simpa using h
    rw [ByteArray.toList_eq, ByteArray.toList_eq] at h1
    exact (ByteArray.ext (Array.ext' h1)).symm
  | _ => rw [hp] at h; cases h
theorem reg_txt {s : ByteArray} (h : (Pg.regP s).2 = true) : s = (⟨#[114]⟩ : ByteArray) ++ ⟨(Lib.decDigits (Pg.regP s).1).toArray⟩ := by
  unfold Pg.regP at h ⊢
  by_cases hp : Lib.hasPrefix s.data.toList [114] = true
  · rw [if_pos hp] at h ⊢
    have h1 : (Pg.numP (Pg.cutR s)).2 = true := by
      have := h
      simp only [Bool.and_eq_true] at this
      exact this.1
    have h2 := num_txt h1
    show s = _ ++ ⟨(Lib.decDigits (Pg.numP (Pg.cutR s)).1).toArray⟩
    rw [← h2]
    unfold Pg.cutR Lib.trimPrefix
    rw [if_pos hp]
    apply ByteArray.ext
    apply Array.ext'
    rw [ByteArray.data_append, Array.toList_append]
    unfold Lib.hasPrefix at hp
    obtain ⟨t, ht⟩ := List.isPrefixOf_iff_prefix.1 hp
    rw [← ht]
    simp
  · rw [if_neg hp] at h; cases h
theorem field_txt {l : Nat} {s : ByteArray} (h : (Pg.fieldP l s).2 = true) : s = Pg.fieldT l (Pg.fieldP l s).1 ∧ (Pg.fieldP l s).1 < 18446744073709551616 := by
  have hlt := fieldP_lt l s
  unfold Pg.fieldP at h hlt ⊢
  unfold Pg.fieldT
  by_cases h75 : l = 75
  · rw [if_pos h75] at h ⊢
    rw [if_pos h75]
    have hb := parse_back (s := s) (by simpa using h)
    exact ⟨hb.2.symm, hb.1⟩
  · rw [if_neg h75] at h hlt ⊢
    rw [if_neg h75]
    by_cases h78 : l = 78
    · rw [if_pos h78] at h hlt ⊢
      rw [if_pos h78]
      exact ⟨num_txt h, by rcases hlt with k | k; exact absurd k h75; omega⟩
    · rw [if_neg h78] at h hlt ⊢
      rw [if_neg h78]
      exact ⟨reg_txt h, by rcases hlt with k | k; exact absurd k h75; omega⟩
namespace Pg
def txtAll : List UInt8 → List Nat → List ByteArray
  | c :: l, v :: vs => fieldT c.toNat v :: txtAll l vs
  | _, _ => []
end Pg
theorem goP_back (W : List ByteArray) : ∀ (l : List UInt8) (i : Nat) (y : In), (Pg.goP W l i y).2 = true → W.length = 1 + i + l.length → ∃ vs : List Nat, vs.length = l.length ∧ (Pg.goP W l i y).1 = Pg.setAll l vs y ∧ W.drop (1 + i) = Pg.txtAll l vs ∧ ∀ v ∈ vs, v < 18446744073709551616
  | [], i, y, _, hl => ⟨[], rfl, rfl, by rw [List.drop_of_length_le (by simp at hl; omega)]; rfl, by simp⟩
  | c :: r, i, y, h, hl => by
    unfold Pg.goP at h ⊢
    by_cases hf : (Pg.fieldP c.toNat W[1 + i]!).2 = false
    · rw [if_pos hf] at h; cases h
    · rw [if_neg hf] at h ⊢
      obtain ⟨h1, h2⟩ := field_txt (l := c.toNat) (s := W[1 + i]!) (by simpa using hf)
      rw [List.length_cons] at hl
      obtain ⟨vs, k1, k2, k3, k4⟩ := goP_back W r (i + 1) _ h (by omega)
      refine ⟨(Pg.fieldP c.toNat W[1 + i]!).1 :: vs, by simp [k1], k2, ?_, ?_⟩
      · show _ = Pg.fieldT c.toNat (Pg.fieldP c.toNat W[1 + i]!).1 :: Pg.txtAll r vs
        rw [← h1, ← k3, List.drop_eq_getElem_cons (show 1 + i < W.length by omega), getElem!_pos W (1 + i) (by omega)]
        rfl
      · intro u hu
        rcases List.mem_cons.1 hu with rfl | hu
        · exact h2
        · exact k4 u hu
theorem txt_fts {op : Int} {hp : Nat × Bool × Bool} (hh : hp = (1, false, true) ∨ hp = (2, false, false) ∨ hp = (3, false, false) ∨ hp = (0, true, false) ∨ hp = (1, true, false) ∨ hp = (1, false, false) ∨ hp = (0, false, false)) (vs : List Nat) (hl : vs.length = (Pg.fl hp).length) (hv : ∀ v ∈ vs, v < 18446744073709551616) : (Pg.txtAll (Pg.fl hp) vs).map (fun u => u.data.toList) = Pg.fts (Pg.setAll (Pg.fl hp) vs ⟨op, 0, 0, 0, 0, 0⟩) (Pg.fl hp) := by
  rcases hh with rfl | rfl | rfl | rfl | rfl | rfl | rfl
  · match vs, hl with
    | [a, b], _ =>
      have ha := un_nat (hv a (by simp))
      simp [Pg.fl, Pg.txtAll, Pg.fts, Pg.setAll, Pg.setF, Pg.get, ha]
  · match vs, hl with
    | [a, b], _ =>
      have ha := un_nat (hv a (by simp))
      have hb := un_nat (hv b (by simp))
      simp [Pg.fl, Pg.txtAll, Pg.fts, Pg.setAll, Pg.setF, Pg.get, ha, hb]
  · match vs, hl with
    | [a, b, c], _ =>
      have ha := un_nat (hv a (by simp))
      have hb := un_nat (hv b (by simp))
      have hc := un_nat (hv c (by simp))
      simp [Pg.fl, Pg.txtAll, Pg.fts, Pg.setAll, Pg.setF, Pg.get, ha, hb, hc]
  · match vs, hl with
    | [a], _ =>
      have ha := un_nat (hv a (by simp))
      simp [Pg.fl, Pg.txtAll, Pg.fts, Pg.setAll, Pg.setF, Pg.get, ha]
  · match vs, hl with
    | [a, b], _ =>
      have ha := un_nat (hv a (by simp))
      have hb := un_nat (hv b (by simp))
      simp [Pg.fl, Pg.txtAll, Pg.fts, Pg.setAll, Pg.setF, Pg.get, ha, hb]
  · match vs, hl with
    | [a], _ =>
      have ha := un_nat (hv a (by simp))
      simp [Pg.fl, Pg.txtAll, Pg.fts, Pg.setAll, Pg.setF, Pg.get, ha]
  · match vs, hl with
    | [], _ => rfl
theorem setAll_fits' {hp : Nat × Bool × Bool} {op : Int} (hh : hp = (1, false, true) ∨ hp = (2, false, false) ∨ hp = (3, false, false) ∨ hp = (0, true, false) ∨ hp = (1, true, false) ∨ hp = (1, false, false) ∨ hp = (0, false, false)) (vs : List Nat) (hl : vs.length = (Pg.fl hp).length) (hv : ∀ v ∈ vs, v < 18446744073709551616) : (Pg.setAll (Pg.fl hp) vs ⟨op, 0, 0, 0, 0, 0⟩).k < 18446744073709551616 := by
  rcases hh with rfl | rfl | rfl | rfl | rfl | rfl | rfl
  · match vs, hl with
    | [a, b], _ => exact hv b (by simp)
  · match vs, hl with
    | [a, b], _ => exact (by decide : (0 : Nat) < 18446744073709551616)
  · match vs, hl with
    | [a, b, c], _ => exact (by decide : (0 : Nat) < 18446744073709551616)
  · match vs, hl with
    | [a], _ => exact (by decide : (0 : Nat) < 18446744073709551616)
  · match vs, hl with
    | [a, b], _ => exact (by decide : (0 : Nat) < 18446744073709551616)
  · match vs, hl with
    | [a], _ => exact (by decide : (0 : Nat) < 18446744073709551616)
  · match vs, hl with
    | [], _ => exact (by decide : (0 : Nat) < 18446744073709551616)
theorem tbl_shape : Pg.tbl.all (fun s => decide ((Pg.shape s.op).1.word.data.toList = s.word.data.toList ∧ (Pg.shape s.op).1.flds.data.toList = s.flds.data.toList)) = true := by decide +kernel
theorem named_back {w : ByteArray} (h : (Pg.named w).2 = true) : (Pg.shape (Pg.named w).1.op).1.word.data.toList = w.data.toList ∧ (Pg.shape (Pg.named w).1.op).1.flds.data.toList = (Pg.named w).1.flds.data.toList := by
  unfold Pg.named Pg.find at h ⊢
  cases hf : Pg.tbl.findIdx? (fun s => s.word.toList == w.toList) with
  | none => rw [hf] at h; cases h
  | some k =>
    obtain ⟨hk, hp, _⟩ := List.findIdx?_eq_some_iff_getElem.1 hf
    have h1 := List.all_eq_true.1 tbl_shape Pg.tbl[k] (List.getElem_mem hk)
    simp only [decide_eq_true_eq] at h1
    show (Pg.shape (Pg.tbl[k]!).op).1.word.data.toList = _ ∧ (Pg.shape (Pg.tbl[k]!).op).1.flds.data.toList = (Pg.tbl[k]!).flds.data.toList
    rw [getElem!_pos Pg.tbl k hk]
    refine ⟨?_, h1.2⟩
    have h2 : Pg.tbl[k].word.toList = w.toList := by simpa using hp
    rw [ByteArray.toList_eq, ByteArray.toList_eq] at h2
    rw [h1.1, h2]
theorem ins_txt {line : ByteArray} {many : Nat} (h : (Pg.insP line).2 = true) (hi : Pg.insE (Pg.insP line).1 many = 0) : line = Pg.insT (Pg.insP line).1 ∧ (Pg.insP line).1.k < 18446744073709551616 := by
  obtain ⟨hf, _, _⟩ := ins_fl _ many hi
  obtain ⟨w, ws, hs, hj⟩ := split_back 4 line
  unfold Pg.insP at h hf ⊢
  rw [hs] at h hf ⊢
  have h0 : (w :: ws)[0]! = w := rfl
  rw [h0] at h hf ⊢
  by_cases hc : (Pg.named w).2 = false ∨ (w :: ws).length ≠ 1 + (Pg.named w).1.flds.size
  · rw [if_pos hc] at h; cases h
  rw [if_neg hc] at h hf ⊢
  have hn : (Pg.named w).2 = true := by
    cases k : (Pg.named w).2
    · exact absurd (.inl k) hc
    · rfl
  obtain ⟨n1, n2⟩ := named_back hn
  have hlen : (w :: ws).length = 1 + 0 + (Pg.named w).1.flds.data.toList.length := by
    rw [Array.length_toList, Nat.add_zero]
    by_cases k : (w :: ws).length = 1 + (Pg.named w).1.flds.size
    · exact k
    · exact absurd (.inr k) hc
  obtain ⟨vs, k1, k2, k3, k4⟩ := goP_back (w :: ws) _ 0 _ h hlen
  have hop : (Pg.goP (w :: ws) (Pg.named w).1.flds.data.toList 0 ⟨(Pg.named w).1.op, 0, 0, 0, 0, 0⟩).1.op = (Pg.named w).1.op := by rw [k2, setAll_op]
  rw [hop, n2] at hf
  rw [hf] at k1 k2 k3 hop ⊢
  have hall := has_all (Pg.named w).1.op
  have hts := txt_fts (op := (Pg.named w).1.op) hall vs k1 k4
  refine ⟨?_, ?_⟩
  · apply ByteArray.ext
    apply Array.ext'
    unfold Pg.insT
    rw [goT_list, hop, n1, n2, hf, k2, ← hts, hj, List.flatMap_map]
    have k5 : ws = Pg.txtAll (Pg.fl (Pg.hasP (Pg.named w).1.op)) vs := k3
    rw [← k5]
  · rw [k2]
    have hg := setAll_fits' hall vs k1 k4 (op := (Pg.named w).1.op)
    exact hg
end Go.Proofs.YthfbkpkogihcbabGreatDoor
end

section
namespace Go.Proofs.YthfbkpkogihcbabGreatDoor
open Go.RowKit Go.Shelf

theorem lines_back : ∀ (n : Nat) (s : ByteArray), s.size < n → (Pg.linesG n s).flatMap (fun u => u.data.toList) = s.data.toList
  | 0, s, h => by omega
  | n + 1, s, h => by
    unfold Pg.linesG
    rw [List.flatMap_cons]
    have he := endL_le s
    have e1 : (s.extract 0 (Pg.endL s)).data.toList = s.data.toList.take (Pg.endL s) := by rw [ext_data, List.drop_zero, Nat.sub_zero]
    have e2 : (s.extract (Pg.endL s) s.size).data.toList = s.data.toList.drop (Pg.endL s) := ext_end s _
    by_cases hz : (s.extract (Pg.endL s) s.size).size = 0
    · rw [if_pos hz, List.flatMap_nil, List.append_nil, e1]
      have h3 : s.data.toList.drop (Pg.endL s) = [] := by
        rw [← e2]
        exact List.eq_nil_of_length_eq_zero (by rw [Array.length_toList]; exact hz)
      have h4 := List.take_append_drop (Pg.endL s) s.data.toList
      rw [h3, List.append_nil] at h4
      exact h4
    · rw [if_neg hz]
      have hsz : (s.extract (Pg.endL s) s.size).size = s.size - Pg.endL s := by rw [ByteArray.size_extract]; omega
      have hpos : 0 < Pg.endL s := he.2 (by omega)
      rw [lines_back n _ (by omega), e1, e2, List.take_append_drop]
theorem ten_back {l : List UInt8} (h : Lib.hasSuffix l [10] = true) : l = (Lib.trimSuffix l [10]) ++ [10] := by
  unfold Lib.trimSuffix
  rw [if_pos h]
  unfold Lib.hasSuffix at h
  obtain ⟨t, ht⟩ := List.isSuffixOf_iff_suffix.1 h
  rw [← ht, List.length_append, show ([10] : List UInt8).length = 1 from rfl, Nat.add_sub_cancel, List.take_left]
theorem line_txt {k : Nat} {line : ByteArray} {f : Int} {xs : List In} (h : (Pg.lineP k line f xs).2 = true) (hk : k ≠ 1) : line.data.toList = (Pg.cutN line).data.toList ++ [10] ∧ (Pg.insP (Pg.cutN line)).2 = true ∧ (Pg.lineP k line f xs).1 = (f, Pg.addP xs (Pg.insP (Pg.cutN line))) := by
  unfold Pg.lineP at h ⊢
  by_cases hs : Lib.hasSuffix line.data.toList [10] = false
  · rw [if_pos hs] at h; cases h
  · rw [if_neg hs, if_neg hk] at h
    rw [if_neg hs, if_neg hk]
    refine ⟨?_, h, rfl⟩
    have := ten_back (l := line.data.toList) (by simpa using hs)
    unfold Pg.cutN
    simpa using this
theorem fuel_txt {line : ByteArray} {f : Int} {xs : List In} (h : (Pg.lineP 1 line f xs).2 = true) : ∃ n : Nat, line.data.toList = (Pg.fuelT (n : Int)).data.toList ∧ (Pg.lineP 1 line f xs).1 = ((n : Int), xs) := by
  unfold Pg.lineP at h ⊢
  by_cases hs : Lib.hasSuffix line.data.toList [10] = false
  · rw [if_pos hs] at h; cases h
  · rw [if_neg hs, if_pos rfl] at h
    rw [if_neg hs, if_pos rfl]
    have h1 := ten_back (l := line.data.toList) (by simpa using hs)
    have h1' : line.data.toList = (Pg.cutN line).data.toList ++ [10] := by unfold Pg.cutN; simpa using h1
    unfold Pg.fuelP at h ⊢
    by_cases hp : Lib.hasPrefix (Pg.cutN line).data.toList [102, 117, 101, 108, 32] = true
    · rw [if_pos hp] at h ⊢
      have h2 := num_txt (s := Pg.cutF (Pg.cutN line)) h
      refine ⟨(Pg.numP (Pg.cutF (Pg.cutN line))).1, ?_, rfl⟩
      have h3 : (Pg.cutF (Pg.cutN line)).data.toList = Lib.decDigits (Pg.numP (Pg.cutF (Pg.cutN line))).1 := by
        have := congrArg (fun b : ByteArray => b.data.toList) h2
        simpa using this
      have h4 : (Pg.cutN line).data.toList = [102, 117, 101, 108, 32] ++ (Pg.cutF (Pg.cutN line)).data.toList := by
        unfold Pg.cutF Lib.trimPrefix
        rw [if_pos hp]
        unfold Lib.hasPrefix at hp
        obtain ⟨t, ht⟩ := List.isPrefixOf_iff_prefix.1 hp
        rw [← ht]
        simp
      rw [h1', h4, h3]
      unfold Pg.fuelT
      rw [Lib.itoa_nonneg, ByteArray.data_append, Array.toList_append, ByteArray.data_append, Array.toList_append]
    · rw [if_neg hp] at h; cases h
theorem add_pre (xs : List In) (r : In × Bool) : xs <+: Pg.addP xs r := by
  unfold Pg.addP
  split
  · exact List.prefix_append _ _
  · exact List.prefix_rfl
theorem st_pre (LS : List ByteArray) (hok : ∀ k, k < LS.length → Pg.okP LS k = true) : ∀ (j k : Nat), k + 1 + j ≤ LS.length → (Pg.stP LS (k + 1)).2 <+: (Pg.stP LS (k + 1 + j)).2 ∧ (Pg.stP LS (k + 1 + j)).1 = (Pg.stP LS (k + 1)).1
  | 0, k, _ => ⟨List.prefix_rfl, rfl⟩
  | j + 1, k, h => by
    obtain ⟨h1, h2⟩ := st_pre LS hok j k (by omega)
    have h3 := hok (k + 1 + j) (by omega)
    unfold Pg.okP at h3
    obtain ⟨_, _, h4⟩ := line_txt h3 (by omega)
    have e : Pg.stP LS (k + 1 + (j + 1)) = (Pg.lineP (k + 1 + j + 1) LS[k + 1 + j]! (Pg.stP LS (k + 1 + j)).1 (Pg.stP LS (k + 1 + j)).2).1 := rfl
    rw [e, h4]
    exact ⟨h1.trans (add_pre _ _), h2⟩
/-- a text that is read is the one that is told -/
theorem print_parse {text : ByteArray} (h : (Pg.parseS text).2.1 = 0) : (Pg.checkE (Pg.parseS text).1.1 (Pg.parseS text).1.2).1 = 0 ∧ Pg.printS (Pg.parseS text).1.1 (Pg.parseS text).1.2 = text ∧ ∀ x ∈ (Pg.parseS text).1.2, x.k < 18446744073709551616 := by
  have hjoin : (Pg.linesP text).flatMap (fun u => u.data.toList) = text.data.toList := lines_back (text.size + 1) text (Nat.lt_succ_self _)
  have hne : 0 < (Pg.linesP text).length := by unfold Pg.linesP Pg.linesG; simp
  unfold Pg.parseS at h ⊢
  generalize Pg.linesP text = LS at *
  cases hf : (List.range LS.length).find? (fun k => !Pg.okP LS k) with
  | some k => rw [hf] at h; cases h
  | none =>
    rw [hf] at h
    have hok : ∀ k, k < LS.length → Pg.okP LS k = true := fun k hk => by
      have := List.find?_eq_none.1 hf k (List.mem_range.2 hk)
      simpa using this
    simp only at h ⊢
    by_cases hc : (Pg.checkE (Pg.stP LS LS.length).1 (Pg.stP LS LS.length).2).1 = 0
    · rw [if_neg (by simp [hc])]
      refine ⟨hc, ?_⟩
      have hi := check_ins _ _ hc
      obtain ⟨_, _, _, hn2⟩ := checkE_two _ _ hc
      obtain ⟨m, hm⟩ : ∃ m, LS.length = m + 1 := ⟨LS.length - 1, by omega⟩
      have h00 := hok 0 (by omega)
      unfold Pg.okP at h00
      obtain ⟨n, hn, hst0⟩ := fuel_txt h00
      have hs1 : Pg.stP LS (0 + 1) = ((n : Int), []) := hst0
      have hmain : ∀ k, k ≤ m → (LS.take (k + 1)).flatMap (fun u => u.data.toList) = (Pg.fuelT (n : Int)).data.toList ++ ((Pg.stP LS (k + 1)).2.map fun x => (Pg.insT x).data.toList).flatMap (fun u => u ++ [10]) ∧ ∀ x ∈ (Pg.stP LS (k + 1)).2, x.k < 18446744073709551616 := by
        intro k
        induction k with
        | zero =>
          intro _
          rw [hs1]
          have e : LS.take (0 + 1) = [LS[0]!] := by
            cases LS with
            | nil => simp at hne
            | cons a r => rfl
          rw [e, List.flatMap_cons, List.flatMap_nil, List.append_nil, hn]
          exact ⟨by simp, by simp⟩
        | succ j ih =>
          intro hj
          obtain ⟨ih1, ih2⟩ := ih (by omega)
          have h3 := hok (j + 1) (by omega)
          unfold Pg.okP at h3
          obtain ⟨l1, l2, l3⟩ := line_txt h3 (by omega)
          have e : Pg.stP LS (j + 1 + 1) = (Pg.lineP (j + 1 + 1) LS[j + 1]! (Pg.stP LS (j + 1)).1 (Pg.stP LS (j + 1)).2).1 := rfl
          have hpre := (st_pre LS hok (m - (j + 1)) (j + 1) (by omega)).1
          rw [show j + 1 + 1 + (m - (j + 1)) = LS.length by omega] at hpre
          have hpre0 := (st_pre LS hok (m - j) j (by omega)).1
          rw [show j + 1 + (m - j) = LS.length by omega] at hpre0
          have hlen0 : (Pg.stP LS (j + 1)).2.length ≤ 64 := Nat.le_trans hpre0.length_le hn2
          have hadd : (Pg.stP LS (j + 1 + 1)).2 = (Pg.stP LS (j + 1)).2 ++ [(Pg.insP (Pg.cutN LS[j + 1]!)).1] := by
            rw [e, l3]
            show Pg.addP _ _ = _
            unfold Pg.addP
            rw [if_pos ⟨l2, hlen0⟩]
          have hins : Pg.insE (Pg.insP (Pg.cutN LS[j + 1]!)).1 (Pg.stP LS LS.length).2.length = 0 := hi _ (hpre.subset (by rw [hadd]; simp))
          obtain ⟨t1, t2⟩ := ins_txt l2 hins
          have ht : LS.take (j + 1 + 1) = LS.take (j + 1) ++ [LS[j + 1]!] := by
            rw [getElem!_pos LS (j + 1) (by omega), List.take_append_getElem]
          rw [ht, List.flatMap_append, ih1, hadd, List.map_append, List.flatMap_append, List.append_assoc]
          refine ⟨?_, ?_⟩
          · congr 2
            rw [List.flatMap_cons, List.flatMap_nil, List.append_nil, l1, List.map_cons, List.map_nil, List.flatMap_cons, List.flatMap_nil, List.append_nil, ← t1]
          · intro x hx
            rcases List.mem_append.1 hx with hx | hx
            · exact ih2 x hx
            · rw [List.mem_singleton.1 hx]; exact t2
      obtain ⟨m1, m2⟩ := hmain m (Nat.le_refl _)
      have hfst : (Pg.stP LS LS.length).1 = (n : Int) := by
        have := (st_pre LS hok m 0 (by omega)).2
        rw [show 0 + 1 + m = LS.length by omega, hs1] at this
        exact this
      rw [← hm] at m1 m2
      refine ⟨?_, m2⟩
      rw [List.take_length, hjoin] at m1
      unfold Pg.printS Pg.printT
      rw [if_pos hc, allT_flat, hfst, ← m1]
    · rw [if_pos hc] at h; exact absurd h hc
end Go.Proofs.YthfbkpkogihcbabGreatDoor
end

section
namespace Go.Proofs.YthfbkpkogihcbabGreatDoor
open Go.RowKit Go.Shelf

/-- bytes that begin with a program's are read as that program so far -/
theorem row_at {fuel : Int} {xs : List In} {b : ByteArray} {r : List UInt8} (hx : ∀ x ∈ xs, x.Fits) (h : (Pg.checkE fuel xs).1 = 0) (hb : b.data.toList = (Pg.packS fuel xs).data.toList ++ r) : ∃ q, Pg.rowS b = (xs, (q, 0)) ∧ rest b q = r := by
  obtain ⟨hf1, hf2, hn1, hn2⟩ := checkE_two fuel xs h
  have hi := check_ins fuel xs h
  have hu := un_id (v := fuel) (by omega) hf2
  have hul : Pg.un (xs.length : Int) = xs.length := by have := un_id (v := (xs.length : Int)) (by omega) (by omega); omega
  have e : (Pg.packS fuel xs).data.toList = Pk.enc (Pg.un fuel) ++ (Pk.enc xs.length ++ xs.flatMap fun x => (Pg.insB x).data.toList) := by
    unfold Pg.packS Pg.packB
    rw [if_pos h, allB_flat, hul, List.append_assoc]
  have hr : rest b 0 = Pk.enc (Pg.un fuel) ++ (Pk.enc xs.length ++ ((xs.flatMap fun x => (Pg.insB x).data.toList) ++ r)) := by
    show b.data.toList.drop 0 = _
    rw [List.drop_zero, hb, e, List.append_assoc, List.append_assoc]
  obtain ⟨q1, hq1, hr1⟩ := num_at (most := 1024) hr (by omega) (un_lt _)
  obtain ⟨q2, hq2, hr2⟩ := list_at (most := 64) hr1 hn2 (by omega)
  obtain ⟨q3, hq3, hr3⟩ := many_at hn2 xs q2 r [] hx hi hr2
  refine ⟨q3, ?_, hr3⟩
  unfold Pg.rowS
  rw [hq1, hq2]
  exact hq3
/-- what may be the answer of Unpack -/
theorem unpack_kinds (b : ByteArray) (hs : b.size ≤ 1024) : (Pg.unpackS b).2 = 54 ∨ ((Pg.unpackS b).2 = 0 ∧ rest b (Pg.rowS b).2.1 = []) := by
  unfold Pg.unpackS
  rw [if_neg (by omega)]
  by_cases h2 : endE b ((Pg.rowS b).2.1 : Int) ((Pg.rowS b).2.2 : Int) = 0
  · rw [if_neg (by simp [h2])]
    by_cases h3 : (Pg.checkE ((Pg.numS b 1024 (0, 0)).1 : Int) (Pg.rowS b).1).1 = 0
    · rw [if_neg (by simp [h3])]
      refine .inr ⟨rfl, ?_⟩
      refine List.eq_nil_of_length_eq_zero ?_
      rw [rest_len]
      unfold endE at h2
      by_cases h4 : ((Pg.rowS b).2.2 : Int) = 0 ∧ ((Pg.rowS b).2.1 : Int) < (b.size : Int)
      · rw [if_pos h4] at h2; cases h2
      · rw [if_neg h4] at h2; omega
    · rw [if_pos h3]; exact .inl rfl
  · rw [if_pos h2]; exact .inl rfl
theorem unpack_more {fuel : Int} {xs : List In} {more : ByteArray} (hx : ∀ x ∈ xs, x.Fits) (h : (Pg.checkE fuel xs).1 = 0) (hm : more.size ≠ 0) (hs : (Pg.packS fuel xs ++ more).size ≤ 1024) : (Pg.unpackS (Pg.packS fuel xs ++ more)).2 = 54 := by
  rcases unpack_kinds _ hs with k | ⟨_, k⟩
  · exact k
  · obtain ⟨q, hq, hr⟩ := row_at (b := Pg.packS fuel xs ++ more) (r := more.data.toList) hx h (by rw [ByteArray.data_append, Array.toList_append])
    rw [hq] at k
    rw [hr] at k
    exact absurd (by have := congrArg List.length k; rw [Array.length_toList] at this; exact this) hm
theorem ten_last {text : ByteArray} (h : (Pg.parseS text).2.1 ≠ 55) : ∃ l, text.data.toList = l ++ [10] := by
  have hjoin : (Pg.linesP text).flatMap (fun u => u.data.toList) = text.data.toList := lines_back (text.size + 1) text (Nat.lt_succ_self _)
  have hne : 0 < (Pg.linesP text).length := by unfold Pg.linesP Pg.linesG; simp
  unfold Pg.parseS at h
  generalize Pg.linesP text = LS at *
  cases hf : (List.range LS.length).find? (fun k => !Pg.okP LS k) with
  | some k => rw [hf] at h; exact absurd rfl h
  | none =>
    have hok : Pg.okP LS (LS.length - 1) = true := by
      have := List.find?_eq_none.1 hf (LS.length - 1) (List.mem_range.2 (by omega))
      simpa using this
    unfold Pg.okP Pg.lineP at hok
    by_cases hs : Lib.hasSuffix (LS[LS.length - 1]!).data.toList [10] = false
    · rw [if_pos hs] at hok; cases hok
    · have h1 := ten_back (l := (LS[LS.length - 1]!).data.toList) (by simpa using hs)
      have ht : LS = LS.take (LS.length - 1) ++ [LS[LS.length - 1]!] := by
        have e := List.take_append_getElem (l := LS) (i := LS.length - 1) (by omega)
        rw [getElem!_pos LS (LS.length - 1) (by omega), e, List.take_of_length_le (by omega)]
      rw [ht, List.flatMap_append, List.flatMap_cons, List.flatMap_nil, List.append_nil] at hjoin
      rw [h1, ← List.append_assoc] at hjoin
      exact ⟨_, hjoin.symm⟩
end Go.Proofs.YthfbkpkogihcbabGreatDoor
end

section
namespace Go.Proofs.YthfbkpkogihcbabGreatDoor
open Go.RowKit Go.Shelf

theorem flds_small {b : ByteArray} : ∀ (l : List UInt8) (y : In) (s : Nat × Nat), y.Fits → (∀ c ∈ l, c.toNat = 75 → True) → ((Pg.fldsS b l (y, s)).1).Fits
  | [], _, _, h, _ => h
  | c :: t, y, s, h, hc => by
    have e : Pg.fldsS b (c :: t) (y, s) = Pg.fldsS b t ((Pg.fldS b y c.toNat s).1, (Pg.fldS b y c.toNat s).2) := rfl
    rw [e]
    refine flds_small t _ _ ?_ (fun d hd => hc d (by simp [hd]))
    have hnum : (Pg.numS b 64 s).1 ≤ 64 := by
      unfold Pg.numS
      split
      · exact Nat.zero_le _
      · split
        · rename_i h0 hk
          exact (dec_back (by decide) hk).2.1
        · exact Nat.zero_le _
    have hbit : (Pg.bitsS b s).1 < 18446744073709551616 := by
      by_cases h0 : (Pg.bitsS b s).2.2 = 0
      · exact (bits_back h0).2.2
      · unfold Pg.bitsS at h0 ⊢
        split
        · exact (by decide : (0 : Nat) < 18446744073709551616)
        · rename_i h1
          rw [if_neg h1] at h0
          split
          · rename_i h2
            rw [if_pos h2] at h0
            exact absurd rfl h0
          · exact (by decide : (0 : Nat) < 18446744073709551616)
    unfold Pg.fldS
    split
    · exact ⟨h.op, h.a, h.b, h.c, h.n, hbit⟩
    · unfold Pg.setF
      split
      · exact ⟨h.op, ⟨by show (-9223372036854775808 : Int) ≤ ((Pg.numS b 64 s).1 : Int); omega, by show (((Pg.numS b 64 s).1 : Nat) : Int) ≤ 9223372036854775807; omega⟩, h.b, h.c, h.n, h.k⟩
      split
      · exact ⟨h.op, h.a, ⟨by show (-9223372036854775808 : Int) ≤ ((Pg.numS b 64 s).1 : Int); omega, by show (((Pg.numS b 64 s).1 : Nat) : Int) ≤ 9223372036854775807; omega⟩, h.c, h.n, h.k⟩
      split
      · exact ⟨h.op, h.a, h.b, ⟨by show (-9223372036854775808 : Int) ≤ ((Pg.numS b 64 s).1 : Int); omega, by show (((Pg.numS b 64 s).1 : Nat) : Int) ≤ 9223372036854775807; omega⟩, h.n, h.k⟩
      split
      · exact ⟨h.op, h.a, h.b, h.c, ⟨by show (-9223372036854775808 : Int) ≤ ((Pg.numS b 64 s).1 : Int); omega, by show (((Pg.numS b 64 s).1 : Nat) : Int) ≤ 9223372036854775807; omega⟩, h.k⟩
      · exact ⟨h.op, h.a, h.b, h.c, h.n, by show (Pg.numS b 64 s).1 < 18446744073709551616; omega⟩
theorem insS_fits (b : ByteArray) (s : Nat × Nat) : (Pg.insS b s).1.Fits := by
  unfold Pg.insS
  have hnum : (Pg.numS b 64 s).1 ≤ 64 := by
    unfold Pg.numS
    split
    · exact Nat.zero_le _
    · split
      · rename_i h0 hk
        exact (dec_back (by decide) hk).2.1
      · exact Nat.zero_le _
  exact flds_small _ _ _ ⟨⟨by show (-9223372036854775808 : Int) ≤ ((Pg.numS b 64 s).1 : Int); omega, by show (((Pg.numS b 64 s).1 : Nat) : Int) ≤ 9223372036854775807; omega⟩, ⟨by show (-9223372036854775808 : Int) ≤ 0; decide, by show (0 : Int) ≤ 9223372036854775807; decide⟩, ⟨by show (-9223372036854775808 : Int) ≤ 0; decide, by show (0 : Int) ≤ 9223372036854775807; decide⟩, ⟨by show (-9223372036854775808 : Int) ≤ 0; decide, by show (0 : Int) ≤ 9223372036854775807; decide⟩, ⟨by show (-9223372036854775808 : Int) ≤ 0; decide, by show (0 : Int) ≤ 9223372036854775807; decide⟩, by show (0 : Nat) < 18446744073709551616; decide⟩ (fun _ _ _ => trivial)
theorem manyS_fits (b : ByteArray) : ∀ (n : Nat) (s : Nat × Nat) (acc : List In), (∀ x ∈ acc, x.Fits) → ∀ x ∈ (Pg.manyS b n s acc).1, x.Fits
  | 0, _, _, h => h
  | n + 1, s, acc, h => manyS_fits b n _ _ (fun x hx => by
      rcases List.mem_append.1 hx with hx | hx
      · exact h x hx
      · rw [List.mem_singleton.1 hx]; exact insS_fits b s)
theorem unpack_fits (b : ByteArray) : ∀ x ∈ (Pg.unpackS b).1.2, x.Fits := by
  unfold Pg.unpackS
  split
  · simp
  split
  · simp
  split
  · simp
  · exact manyS_fits b _ _ [] (by simp)
/-- no beginning of a program's bytes is a program's -/
theorem unpack_cut {fuel : Int} {xs : List In} (hx : ∀ x ∈ xs, x.Fits) (h : (Pg.checkE fuel xs).1 = 0) (cut : Nat) (hc : cut < (Pg.packS fuel xs).size) : (Pg.unpackS ((Pg.packS fuel xs).extract 0 cut)).2 = 54 := by
  have hsz := (unpack_pack hx h).1
  have hcs : ((Pg.packS fuel xs).extract 0 cut).size ≤ 1024 := by rw [ByteArray.size_extract]; omega
  rcases unpack_kinds _ hcs with k | ⟨k, _⟩
  · exact k
  · obtain ⟨p1, p2, _⟩ := pack_unpack k
    obtain ⟨q, hq, hr⟩ := row_at (b := Pg.packS fuel xs) (r := (Pg.packS fuel xs).data.toList.drop cut) (unpack_fits _) p1 (by
      rw [p2, ext_data, List.drop_zero, Nat.sub_zero, List.take_append_drop])
    obtain ⟨q', hq', hr'⟩ := row_at (b := Pg.packS fuel xs) (r := []) hx h (by rw [List.append_nil])
    rw [hq] at hq'
    have e : q = q' := congrArg (fun t : List In × (Nat × Nat) => t.2.1) hq'
    rw [← e, hr] at hr'
    have hl := congrArg List.length hr'
    rw [List.length_drop, Array.length_toList] at hl
    have hl2 : (Pg.packS fuel xs).size - cut = 0 := hl
    omega
/-- no beginning of a text is a text that does not end a line -/
theorem parse_cut {t : ByteArray} (h : ∀ l, t.data.toList ≠ l ++ [10]) : (Pg.parseS t).2.1 = 55 := by
  by_cases k : (Pg.parseS t).2.1 = 55
  · exact k
  · obtain ⟨l, hl⟩ := ten_last k
    exact absurd hl (h l)
theorem count_body : ∀ (t : List (List UInt8)), (∀ u ∈ t, (10 : UInt8) ∉ u) → (t.flatMap (fun u => u ++ [10])).count 10 = t.length
  | [], _ => rfl
  | u :: r, h => by
    rw [List.flatMap_cons, List.count_append, List.count_append, count_body r (fun v hv => h v (by simp [hv])), List.count_eq_zero.2 (h u (by simp)), List.length_cons]
    have e : ([10] : List UInt8).count 10 = 1 := rfl
    rw [e]; omega
/-- a program's text has one line more than it has instructions, and ends with a line's end -/
theorem print_lines {fuel : Int} {xs : List In} (hx : ∀ x ∈ xs, x.Fits) (h : (Pg.checkE fuel xs).1 = 0) : (Pg.printS fuel xs).data.toList.count 10 = 1 + xs.length ∧ ∃ l, (Pg.printS fuel xs).data.toList = l ++ [10] := by
  obtain ⟨hf1, hf2, hn1, hn2⟩ := checkE_two fuel xs h
  have hi := check_ins fuel xs h
  have hp := parse_print hx h
  obtain ⟨n, hn⟩ : ∃ n : Nat, fuel = (n : Int) := ⟨fuel.toNat, by omega⟩
  have hF : (Pg.fuelT fuel).data.toList = ([102, 117, 101, 108, 32] ++ Lib.decDigits n) ++ [10] := by
    unfold Pg.fuelT
    rw [hn, Lib.itoa_nonneg, ByteArray.data_append, Array.toList_append, ByteArray.data_append, Array.toList_append]
  have hfu : (10 : UInt8) ∉ [102, 117, 101, 108, 32] ++ Lib.decDigits n := fun k => (List.mem_append.1 k).elim (by decide) (pure_dec n).2
  have e : (Pg.printS fuel xs).data.toList = (([102, 117, 101, 108, 32] ++ Lib.decDigits n) ++ [10]) ++ (xs.map fun x => (Pg.insT x).data.toList).flatMap (fun u => u ++ [10]) := by
    unfold Pg.printS Pg.printT
    rw [if_pos h, allT_flat, hF]
  refine ⟨?_, ten_last (by rw [hp]; show (0 : Int) ≠ 55; decide)⟩
  rw [e, List.count_append, List.count_append, List.count_eq_zero.2 hfu, count_body _ (fun u hu => by
    obtain ⟨x, hm, rfl⟩ := List.mem_map.1 hu
    exact (ins_text (hx x hm) hn2 (hi x hm)).2), List.length_map]
  rfl
end Go.Proofs.YthfbkpkogihcbabGreatDoor
end

section
namespace Go.Proofs.YthfbkpkogihcbabGreatDoor
open Go.RowKit Go.Shelf

theorem text_len : ∀ (xs : List In), (∀ x ∈ xs, x.Fits) → ((xs.map fun x => (Pg.insT x).data.toList).flatMap (fun u => u ++ [10])).length ≤ 312 * xs.length
  | [], _ => Nat.zero_le _
  | x :: r, h => by
    have h1 := text_len r (fun y hy => h y (by simp [hy]))
    have h2 := Pg.insT_len x (h x (by simp)).k
    have h3 : (Pg.insT x).data.toList.length = (Pg.insT x).size := by rw [Array.length_toList]; rfl
    have e : ([10] : List UInt8).length = 1 := rfl
    have e2 : (x :: r).length = r.length + 1 := rfl
    rw [List.map_cons, List.flatMap_cons, List.length_append, List.length_append, h3, e, e2]
    omega
theorem print_len {fuel : Int} {xs : List In} (hx : ∀ x ∈ xs, x.Fits) (h : (Pg.checkE fuel xs).1 = 0) : (Pg.printS fuel xs).size ≤ 100000 := by
  obtain ⟨hf1, hf2, hn1, hn2⟩ := checkE_two fuel xs h
  unfold Pg.printS Pg.printT
  rw [if_pos h, allT_flat]
  show (_ : List UInt8).toArray.size ≤ _
  rw [List.size_toArray, List.length_append]
  have h1 := text_len xs hx
  obtain ⟨n, hn⟩ : ∃ n : Nat, fuel = (n : Int) := ⟨fuel.toNat, by omega⟩
  have h2 : (Lib.itoa fuel).length ≤ 4 := by rw [hn, Lib.itoa_nonneg]; exact dec_short (by omega)
  have h3 : (Pg.fuelT fuel).data.toList.length = 5 + (Lib.itoa fuel).length + 1 := by
    unfold Pg.fuelT
    rw [ByteArray.data_append, Array.toList_append, ByteArray.data_append, Array.toList_append, List.length_append, List.length_append]
    rfl
  omega
theorem parse_bk {fuel : Int} {xs : List In} (hx : ∀ x ∈ xs, x.Fits) (h : (Pg.checkE fuel xs).1 = 0) (w : World) (hT : Libs w) : Calls Tryz.prog 7 #[.string (Pg.printS fuel xs)] w fun e w' => ∃ v, e = .returned (.tuple #[.agg #[.int .i64 fuel, v], .int .i64 0, .int .i64 0]) ∧ Cd w' v xs ∧ Below w.heap.size w w' := by
  have := parseText_any (Pg.printS fuel xs) (by have := print_len hx h; omega) w hT
  rw [parse_print hx h] at this
  exact this.mono fun e w' ⟨v, h1, h2, h3⟩ => ⟨v, h1, own_cd h2, h3⟩
theorem unpack_bk {fuel : Int} {xs : List In} (hx : ∀ x ∈ xs, x.Fits) (h : (Pg.checkE fuel xs).1 = 0) (w : World) : Calls Tryz.prog 10 #[.string (Pg.packS fuel xs)] w fun e w' => ∃ v, e = .returned (.tuple #[.agg #[.int .i64 fuel, v], .int .i64 0]) ∧ Cd w' v xs ∧ Below w.heap.size w w' := by
  have := unpack_any (Pg.packS fuel xs) w
  rw [(unpack_pack hx h).2, show ((fuel.toNat : Nat) : Int) = fuel by have := checkE_two fuel xs h; omega] at this
  exact this.mono fun e w' ⟨v, h1, h2, h3⟩ => ⟨v, h1, own_cd h2, h3⟩
end Go.Proofs.YthfbkpkogihcbabGreatDoor
end

section
namespace Go.Proofs.YthfbkpkogihcbabGreatDoor
open Go.RowKit Go.Shelf

theorem unpack_er {t : ByteArray} (h : (Pg.unpackS t).2 = 54) (w : World) : Calls Tryz.prog 10 #[.string t] w fun e w' => ∃ (f : Int) (ad : Option Addr) (n cap : Nat), e = .returned (.tuple #[.agg #[.int .i64 f, .slice ad n cap], .int .i64 54]) ∧ Below w.heap.size w w' :=
  (unpack_any t w).mono fun _ _ ⟨_, h1, h2, h3⟩ => by obtain ⟨ad, cap, rfl⟩ := own_slice h2; rw [h] at h1; exact ⟨_, _, _, _, h1, h3⟩
theorem unpack_no (t : ByteArray) (w : World) : Calls Tryz.prog 10 #[.string t] w fun e w' => ∃ (f : Int) (ad : Option Addr) (n cap : Nat), e = .returned (.tuple #[.agg #[.int .i64 f, .slice ad n cap], .int .i64 (Pg.unpackS t).2]) ∧ Below w.heap.size w w' :=
  (unpack_any t w).mono fun _ _ ⟨_, h1, h2, h3⟩ => by obtain ⟨ad, cap, rfl⟩ := own_slice h2; exact ⟨_, _, _, _, h1, h3⟩
theorem parse_er {t : ByteArray} (hs : t.size ≤ 4611686018427387904) (h : (Pg.parseS t).2.1 = 55) (w : World) (hT : Libs w) : Calls Tryz.prog 7 #[.string t] w fun e w' => ∃ (f : Int) (ad : Option Addr) (n cap : Nat) (y : Int), e = .returned (.tuple #[.agg #[.int .i64 f, .slice ad n cap], .int .i64 55, .int .i64 y]) ∧ Below w.heap.size w w' :=
  (parseText_any t hs w hT).mono fun _ _ ⟨_, h1, h2, h3⟩ => by obtain ⟨ad, cap, rfl⟩ := own_slice h2; rw [h] at h1; exact ⟨_, _, _, _, _, h1, h3⟩
theorem count_step (s : ByteArray) (i : Nat) (h : i < s.size) : (s.data.toList.take (i + 1)).count 10 = (s.data.toList.take i).count 10 + (if s[i] = 10 then 1 else 0) := by
  have h' : i < s.data.toList.length := by rw [Array.length_toList]; exact h
  rw [← List.take_append_getElem h', List.count_append]
  have e : s.data.toList[i] = s[i] := by rw [Array.getElem_toList]; rfl
  rw [e]
  by_cases k : s[i] = 10
  · rw [if_pos k, k]; rfl
  · rw [if_neg k]; simp [k]
theorem cut_last (PS : ByteArray) (c : Nat) (h0 : 0 < c) (h1 : c ≤ PS.size) (h : PS[c - 1]'(by omega) ≠ 10) : ∀ l, (PS.extract 0 c).data.toList ≠ l ++ [10] := by
  intro l hl
  rw [ext_data, List.drop_zero, Nat.sub_zero] at hl
  have hlen : PS.data.toList.length = PS.size := by rw [Array.length_toList]; rfl
  have e : PS.data.toList.take c = PS.data.toList.take (c - 1) ++ [PS.data.toList[c - 1]'(by omega)] := by
    rw [List.take_append_getElem, show c - 1 + 1 = c by omega]
  rw [e] at hl
  have h2 := (List.append_inj' hl rfl).2
  have h3 : PS.data.toList[c - 1]'(by omega) = 10 := by simpa using h2
  apply h
  rw [← h3, Array.getElem_toList]
  rfl
end Go.Proofs.YthfbkpkogihcbabGreatDoor
end
