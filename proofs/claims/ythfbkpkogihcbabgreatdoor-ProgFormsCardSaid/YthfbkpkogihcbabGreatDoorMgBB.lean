import Derived.Test.YthfbkpkogihcbabGreatDoorMgBA

section
namespace Go.Proofs.YthfbkpkogihcbabGreatDoor
open Go.RowKit Go.Shelf

theorem idx_split (c : UInt8) : ∀ (l : List UInt8), ¬ Lib.indexByte l c < 0 → l = l.take (Lib.indexByte l c).toNat ++ c :: l.drop ((Lib.indexByte l c).toNat + 1)
  | [], h => absurd (show (-1 : Int) < 0 by decide) h
  | d :: l, h => by
    have e : Lib.indexByte (d :: l) c = if d == c then 0 else if Lib.indexByte l c == -1 then -1 else Lib.indexByte l c + 1 := rfl
    by_cases hd : d = c
    · subst hd
      rw [e, if_pos (by simp)]
      rfl
    · rw [e, if_neg (by simpa using hd)] at h ⊢
      by_cases hn : Lib.indexByte l c = -1
      · rw [if_pos (by simpa using hn)] at h; exact absurd (by decide) h
      · rw [if_neg (by simpa using hn)] at h ⊢
        have hge := Lib.indexByte_ge l c
        have ih := idx_split c l (by omega)
        rw [show (Lib.indexByte l c + 1).toNat = (Lib.indexByte l c).toNat + 1 by omega, List.take_succ_cons, List.drop_succ_cons, List.cons_append]
        exact congrArg (d :: ·) ih
theorem ext_data (s : ByteArray) (a b : Nat) : (s.extract a b).data.toList = (s.data.toList.drop a).take (b - a) := by
  rw [ByteArray.data_extract, Array.toList_extract, List.extract_eq_take_drop]
theorem ext_end (s : ByteArray) (a : Nat) : (s.extract a s.size).data.toList = s.data.toList.drop a := by
  rw [ext_data, List.take_of_length_le]
  rw [List.length_drop, Array.length_toList]
  exact Nat.le_refl _
theorem split_back : ∀ (n : Nat) (s : ByteArray), ∃ w ws, Pg.splitW n s = w :: ws ∧ s.data.toList = w.data.toList ++ ws.flatMap (fun u => 32 :: u.data.toList)
  | 0, s => ⟨s, [], rfl, by simp⟩
  | n + 1, s => by
    unfold Pg.splitW
    by_cases h : Lib.indexByte s.data.toList 32 < 0
    · rw [if_pos h]; exact ⟨s, [], rfl, by simp⟩
    · rw [if_neg h]
      obtain ⟨w, ws, h1, h2⟩ := split_back n (s.extract ((Lib.indexByte s.data.toList 32).toNat + 1) s.size)
      refine ⟨_, _, rfl, ?_⟩
      rw [h1, List.flatMap_cons, List.cons_append, ← h2, ext_end, ext_data, List.drop_zero, Nat.sub_zero]
      exact idx_split 32 _ h
theorem num_txt {s : ByteArray} (h : (Pg.numP s).2 = true) : s = ⟨(Lib.decDigits (Pg.numP s).1).toArray⟩ := by
  unfold Pg.numP at h ⊢
  by_cases h9 : 9 < s.size
  · rw [if_pos h9] at h; cases h
  rw [if_neg h9] at h ⊢
  cases hp : Lib.parseUintB 64 s.data.toList with
  | ok u =>
    rw [hp] at h
    have h1 : (⟨(Lib.decDigits u).toArray⟩ : ByteArray).toList = s.toList := by simpa using h
    rw [ByteArray.toList_eq, ByteArray.toList_eq] at h1
    exact (ByteArray.ext (Array.ext' h1)).symm
  | _ => rw [hp] at h; cases h
theorem reg_txt {s : ByteArray} (h : (Pg.regP s).2 = true) : s = (⟨#[114]⟩ : ByteArray) ++ ⟨(Lib.decDigits (Pg.regP s).1).toArray⟩ := by
  unfold Pg.regP at h ⊢
  by_cases hp : Lib.hasPrefix s.data.toList [114] = true
  · rw [if_pos hp] at h ⊢
    have h1 : (Pg.numP (Pg.cutR s)).2 = true := by
      have := h
      simp only [Bool.and_eq_true] at this
      exact this.1
    have h2 := num_txt h1
    show s = _ ++ ⟨(Lib.decDigits (Pg.numP (Pg.cutR s)).1).toArray⟩
    rw [← h2]
    unfold Pg.cutR Lib.trimPrefix
    rw [if_pos hp]
    apply ByteArray.ext
    apply Array.ext'
    rw [ByteArray.data_append, Array.toList_append]
    unfold Lib.hasPrefix at hp
    obtain ⟨t, ht⟩ := List.isPrefixOf_iff_prefix.1 hp
    rw [← ht]
    simp
  · rw [if_neg hp] at h; cases h
theorem field_txt {l : Nat} {s : ByteArray} (h : (Pg.fieldP l s).2 = true) : s = Pg.fieldT l (Pg.fieldP l s).1 ∧ (Pg.fieldP l s).1 < 18446744073709551616 := by
  have hlt := fieldP_lt l s
  unfold Pg.fieldP at h hlt ⊢
  unfold Pg.fieldT
  by_cases h75 : l = 75
  · rw [if_pos h75] at h ⊢
    rw [if_pos h75]
    have hb := parse_back (s := s) (by simpa using h)
    exact ⟨hb.2.symm, hb.1⟩
  · rw [if_neg h75] at h hlt ⊢
    rw [if_neg h75]
    by_cases h78 : l = 78
    · rw [if_pos h78] at h hlt ⊢
      rw [if_pos h78]
      exact ⟨num_txt h, by rcases hlt with k | k; exact absurd k h75; omega⟩
    · rw [if_neg h78] at h hlt ⊢
      rw [if_neg h78]
      exact ⟨reg_txt h, by rcases hlt with k | k; exact absurd k h75; omega⟩
namespace Pg
def txtAll : List UInt8 → List Nat → List ByteArray
  | c :: l, v :: vs => fieldT c.toNat v :: txtAll l vs
  | _, _ => []
end Pg
theorem goP_back (W : List ByteArray) : ∀ (l : List UInt8) (i : Nat) (y : In), (Pg.goP W l i y).2 = true → W.length = 1 + i + l.length → ∃ vs : List Nat, vs.length = l.length ∧ (Pg.goP W l i y).1 = Pg.setAll l vs y ∧ W.drop (1 + i) = Pg.txtAll l vs ∧ ∀ v ∈ vs, v < 18446744073709551616
  | [], i, y, _, hl => ⟨[], rfl, rfl, by rw [List.drop_of_length_le (by simp at hl; omega)]; rfl, by simp⟩
  | c :: r, i, y, h, hl => by
    unfold Pg.goP at h ⊢
    by_cases hf : (Pg.fieldP c.toNat W[1 + i]!).2 = false
    · rw [if_pos hf] at h; cases h
    · rw [if_neg hf] at h ⊢
      obtain ⟨h1, h2⟩ := field_txt (l := c.toNat) (s := W[1 + i]!) (by simpa using hf)
      rw [List.length_cons] at hl
      obtain ⟨vs, k1, k2, k3, k4⟩ := goP_back W r (i + 1) _ h (by omega)
      refine ⟨(Pg.fieldP c.toNat W[1 + i]!).1 :: vs, by simp [k1], k2, ?_, ?_⟩
      · show _ = Pg.fieldT c.toNat (Pg.fieldP c.toNat W[1 + i]!).1 :: Pg.txtAll r vs
        rw [← h1, ← k3, List.drop_eq_getElem_cons (show 1 + i < W.length by omega), getElem!_pos W (1 + i) (by omega)]
        rfl
      · intro u hu
        rcases List.mem_cons.1 hu with rfl | hu
        · exact h2
        · exact k4 u hu
theorem txt_fts {op : Int} {hp : Nat × Bool × Bool} (hh : hp = (1, false, true) ∨ hp = (2, false, false) ∨ hp = (3, false, false) ∨ hp = (0, true, false) ∨ hp = (1, true, false) ∨ hp = (1, false, false) ∨ hp = (0, false, false)) (vs : List Nat) (hl : vs.length = (Pg.fl hp).length) (hv : ∀ v ∈ vs, v < 18446744073709551616) : (Pg.txtAll (Pg.fl hp) vs).map (fun u => u.data.toList) = Pg.fts (Pg.setAll (Pg.fl hp) vs ⟨op, 0, 0, 0, 0, 0⟩) (Pg.fl hp) := by
  rcases hh with rfl | rfl | rfl | rfl | rfl | rfl | rfl
  · match vs, hl with
    | [a, b], _ =>
      have ha := un_nat (hv a (by simp))
      simp [Pg.fl, Pg.txtAll, Pg.fts, Pg.setAll, Pg.setF, Pg.get, ha]
  · match vs, hl with
    | [a, b], _ =>
      have ha := un_nat (hv a (by simp))
      have hb := un_nat (hv b (by simp))
      simp [Pg.fl, Pg.txtAll, Pg.fts, Pg.setAll, Pg.setF, Pg.get, ha, hb]
  · match vs, hl with
    | [a, b, c], _ =>
      have ha := un_nat (hv a (by simp))
      have hb := un_nat (hv b (by simp))
      have hc := un_nat (hv c (by simp))
      simp [Pg.fl, Pg.txtAll, Pg.fts, Pg.setAll, Pg.setF, Pg.get, ha, hb, hc]
  · match vs, hl with
    | [a], _ =>
      have ha := un_nat (hv a (by simp))
      simp [Pg.fl, Pg.txtAll, Pg.fts, Pg.setAll, Pg.setF, Pg.get, ha]
  · match vs, hl with
    | [a, b], _ =>
      have ha := un_nat (hv a (by simp))
      have hb := un_nat (hv b (by simp))
      simp [Pg.fl, Pg.txtAll, Pg.fts, Pg.setAll, Pg.setF, Pg.get, ha, hb]
  · match vs, hl with
    | [a], _ =>
      have ha := un_nat (hv a (by simp))
      simp [Pg.fl, Pg.txtAll, Pg.fts, Pg.setAll, Pg.setF, Pg.get, ha]
  · match vs, hl with
    | [], _ => rfl
theorem setAll_fits' {hp : Nat × Bool × Bool} {op : Int} (hh : hp = (1, false, true) ∨ hp = (2, false, false) ∨ hp = (3, false, false) ∨ hp = (0, true, false) ∨ hp = (1, true, false) ∨ hp = (1, false, false) ∨ hp = (0, false, false)) (vs : List Nat) (hl : vs.length = (Pg.fl hp).length) (hv : ∀ v ∈ vs, v < 18446744073709551616) : (Pg.setAll (Pg.fl hp) vs ⟨op, 0, 0, 0, 0, 0⟩).k < 18446744073709551616 := by
  rcases hh with rfl | rfl | rfl | rfl | rfl | rfl | rfl
  · match vs, hl with
    | [a, b], _ => exact hv b (by simp)
  · match vs, hl with
    | [a, b], _ => exact (by decide : (0 : Nat) < 18446744073709551616)
  · match vs, hl with
    | [a, b, c], _ => exact (by decide : (0 : Nat) < 18446744073709551616)
  · match vs, hl with
    | [a], _ => exact (by decide : (0 : Nat) < 18446744073709551616)
  · match vs, hl with
    | [a, b], _ => exact (by decide : (0 : Nat) < 18446744073709551616)
  · match vs, hl with
    | [a], _ => exact (by decide : (0 : Nat) < 18446744073709551616)
  · match vs, hl with
    | [], _ => exact (by decide : (0 : Nat) < 18446744073709551616)
theorem tbl_shape : Pg.tbl.all (fun s => decide ((Pg.shape s.op).1.word.data.toList = s.word.data.toList ∧ (Pg.shape s.op).1.flds.data.toList = s.flds.data.toList)) = true := by decide +kernel
theorem named_back {w : ByteArray} (h : (Pg.named w).2 = true) : (Pg.shape (Pg.named w).1.op).1.word.data.toList = w.data.toList ∧ (Pg.shape (Pg.named w).1.op).1.flds.data.toList = (Pg.named w).1.flds.data.toList := by
  unfold Pg.named Pg.find at h ⊢
  cases hf : Pg.tbl.findIdx? (fun s => s.word.toList == w.toList) with
  | none => rw [hf] at h; cases h
  | some k =>
    obtain ⟨hk, hp, _⟩ := List.findIdx?_eq_some_iff_getElem.1 hf
    have h1 := List.all_eq_true.1 tbl_shape Pg.tbl[k] (List.getElem_mem hk)
    simp only [decide_eq_true_eq] at h1
    show (Pg.shape (Pg.tbl[k]!).op).1.word.data.toList = _ ∧ (Pg.shape (Pg.tbl[k]!).op).1.flds.data.toList = (Pg.tbl[k]!).flds.data.toList
    rw [getElem!_pos Pg.tbl k hk]
    refine ⟨?_, h1.2⟩
    have h2 : Pg.tbl[k].word.toList = w.toList := by simpa using hp
    rw [ByteArray.toList_eq, ByteArray.toList_eq] at h2
    rw [h1.1, h2]
theorem ins_txt {line : ByteArray} {many : Nat} (h : (Pg.insP line).2 = true) (hi : Pg.insE (Pg.insP line).1 many = 0) : line = Pg.insT (Pg.insP line).1 ∧ (Pg.insP line).1.k < 18446744073709551616 := by
  obtain ⟨hf, _, _⟩ := ins_fl _ many hi
  obtain ⟨w, ws, hs, hj⟩ := split_back 4 line
  unfold Pg.insP at h hf ⊢
  rw [hs] at h hf ⊢
  have h0 : (w :: ws)[0]! = w := rfl
  rw [h0] at h hf ⊢
  by_cases hc : (Pg.named w).2 = false ∨ (w :: ws).length ≠ 1 + (Pg.named w).1.flds.size
  · rw [if_pos hc] at h; cases h
  rw [if_neg hc] at h hf ⊢
  have hn : (Pg.named w).2 = true := by
    cases k : (Pg.named w).2
    · exact absurd (.inl k) hc
    · rfl
  obtain ⟨n1, n2⟩ := named_back hn
  have hlen : (w :: ws).length = 1 + 0 + (Pg.named w).1.flds.data.toList.length := by
    rw [Array.length_toList, Nat.add_zero]
    by_cases k : (w :: ws).length = 1 + (Pg.named w).1.flds.size
    · exact k
    · exact absurd (.inr k) hc
  obtain ⟨vs, k1, k2, k3, k4⟩ := goP_back (w :: ws) _ 0 _ h hlen
  have hop : (Pg.goP (w :: ws) (Pg.named w).1.flds.data.toList 0 ⟨(Pg.named w).1.op, 0, 0, 0, 0, 0⟩).1.op = (Pg.named w).1.op := by rw [k2, setAll_op]
  rw [hop, n2] at hf
  rw [hf] at k1 k2 k3 hop ⊢
  have hall := has_all (Pg.named w).1.op
  have hts := txt_fts (op := (Pg.named w).1.op) hall vs k1 k4
  refine ⟨?_, ?_⟩
  · apply ByteArray.ext
    apply Array.ext'
    unfold Pg.insT
    rw [goT_list, hop, n1, n2, hf, k2, ← hts, hj, List.flatMap_map]
    have k5 : ws = Pg.txtAll (Pg.fl (Pg.hasP (Pg.named w).1.op)) vs := k3
    rw [← k5]
  · rw [k2]
    have hg := setAll_fits' hall vs k1 k4 (op := (Pg.named w).1.op)
    exact hg
end Go.Proofs.YthfbkpkogihcbabGreatDoor
end

section
namespace Go.Proofs.YthfbkpkogihcbabGreatDoor
open Go.RowKit Go.Shelf

theorem lines_back : ∀ (n : Nat) (s : ByteArray), s.size < n → (Pg.linesG n s).flatMap (fun u => u.data.toList) = s.data.toList
  | 0, s, h => by omega
  | n + 1, s, h => by
    unfold Pg.linesG
    rw [List.flatMap_cons]
    have he := endL_le s
    have e1 : (s.extract 0 (Pg.endL s)).data.toList = s.data.toList.take (Pg.endL s) := by rw [ext_data, List.drop_zero, Nat.sub_zero]
    have e2 : (s.extract (Pg.endL s) s.size).data.toList = s.data.toList.drop (Pg.endL s) := ext_end s _
    by_cases hz : (s.extract (Pg.endL s) s.size).size = 0
    · rw [if_pos hz, List.flatMap_nil, List.append_nil, e1]
      have h3 : s.data.toList.drop (Pg.endL s) = [] := by
        rw [← e2]
        exact List.eq_nil_of_length_eq_zero (by rw [Array.length_toList]; exact hz)
      have h4 := List.take_append_drop (Pg.endL s) s.data.toList
      rw [h3, List.append_nil] at h4
      exact h4
    · rw [if_neg hz]
      have hsz : (s.extract (Pg.endL s) s.size).size = s.size - Pg.endL s := by rw [ByteArray.size_extract]; omega
      have hpos : 0 < Pg.endL s := he.2 (by omega)
      rw [lines_back n _ (by omega), e1, e2, List.take_append_drop]
theorem ten_back {l : List UInt8} (h : Lib.hasSuffix l [10] = true) : l = (Lib.trimSuffix l [10]) ++ [10] := by
  unfold Lib.trimSuffix
  rw [if_pos h]
  unfold Lib.hasSuffix at h
  obtain ⟨t, ht⟩ := List.isSuffixOf_iff_suffix.1 h
  rw [← ht, List.length_append, show ([10] : List UInt8).length = 1 from rfl, Nat.add_sub_cancel, List.take_left]
theorem line_txt {k : Nat} {line : ByteArray} {f : Int} {xs : List In} (h : (Pg.lineP k line f xs).2 = true) (hk : k ≠ 1) : line.data.toList = (Pg.cutN line).data.toList ++ [10] ∧ (Pg.insP (Pg.cutN line)).2 = true ∧ (Pg.lineP k line f xs).1 = (f, Pg.addP xs (Pg.insP (Pg.cutN line))) := by
  unfold Pg.lineP at h ⊢
  by_cases hs : Lib.hasSuffix line.data.toList [10] = false
  · rw [if_pos hs] at h; cases h
  · rw [if_neg hs, if_neg hk] at h
    rw [if_neg hs, if_neg hk]
    refine ⟨?_, h, rfl⟩
    have := ten_back (l := line.data.toList) (by simpa using hs)
    unfold Pg.cutN
    simpa using this
theorem fuel_txt {line : ByteArray} {f : Int} {xs : List In} (h : (Pg.lineP 1 line f xs).2 = true) : ∃ n : Nat, line.data.toList = (Pg.fuelT (n : Int)).data.toList ∧ (Pg.lineP 1 line f xs).1 = ((n : Int), xs) := by
  unfold Pg.lineP at h ⊢
  by_cases hs : Lib.hasSuffix line.data.toList [10] = false
  · rw [if_pos hs] at h; cases h
  · rw [if_neg hs, if_pos rfl] at h
    rw [if_neg hs, if_pos rfl]
    have h1 := ten_back (l := line.data.toList) (by simpa using hs)
    have h1' : line.data.toList = (Pg.cutN line).data.toList ++ [10] := by unfold Pg.cutN; simpa using h1
    unfold Pg.fuelP at h ⊢
    by_cases hp : Lib.hasPrefix (Pg.cutN line).data.toList [102, 117, 101, 108, 32] = true
    · rw [if_pos hp] at h ⊢
      have h2 := num_txt (s := Pg.cutF (Pg.cutN line)) h
      refine ⟨(Pg.numP (Pg.cutF (Pg.cutN line))).1, ?_, rfl⟩
      have h3 : (Pg.cutF (Pg.cutN line)).data.toList = Lib.decDigits (Pg.numP (Pg.cutF (Pg.cutN line))).1 := by
        have := congrArg (fun b : ByteArray => b.data.toList) h2
        simpa using this
      have h4 : (Pg.cutN line).data.toList = [102, 117, 101, 108, 32] ++ (Pg.cutF (Pg.cutN line)).data.toList := by
        unfold Pg.cutF Lib.trimPrefix
        rw [if_pos hp]
        unfold Lib.hasPrefix at hp
        obtain ⟨t, ht⟩ := List.isPrefixOf_iff_prefix.1 hp
        rw [← ht]
        simp
      rw [h1', h4, h3]
      unfold Pg.fuelT
      rw [Lib.itoa_nonneg, ByteArray.data_append, Array.toList_append, ByteArray.data_append, Array.toList_append]
    · rw [if_neg hp] at h; cases h
theorem add_pre (xs : List In) (r : In × Bool) : xs <+: Pg.addP xs r := by
  unfold Pg.addP
  split
  · exact List.prefix_append _ _
  · exact List.prefix_rfl
theorem st_pre (LS : List ByteArray) (hok : ∀ k, k < LS.length → Pg.okP LS k = true) : ∀ (j k : Nat), k + 1 + j ≤ LS.length → (Pg.stP LS (k + 1)).2 <+: (Pg.stP LS (k + 1 + j)).2 ∧ (Pg.stP LS (k + 1 + j)).1 = (Pg.stP LS (k + 1)).1
  | 0, k, _ => ⟨List.prefix_rfl, rfl⟩
  | j + 1, k, h => by
    obtain ⟨h1, h2⟩ := st_pre LS hok j k (by omega)
    have h3 := hok (k + 1 + j) (by omega)
    unfold Pg.okP at h3
    obtain ⟨_, _, h4⟩ := line_txt h3 (by omega)
    have e : Pg.stP LS (k + 1 + (j + 1)) = (Pg.lineP (k + 1 + j + 1) LS[k + 1 + j]! (Pg.stP LS (k + 1 + j)).1 (Pg.stP LS (k + 1 + j)).2).1 := rfl
    rw [e, h4]
    exact ⟨h1.trans (add_pre _ _), h2⟩
/-- a text that is read is the one that is told -/
theorem print_parse {text : ByteArray} (h : (Pg.parseS text).2.1 = 0) : (Pg.checkE (Pg.parseS text).1.1 (Pg.parseS text).1.2).1 = 0 ∧ Pg.printS (Pg.parseS text).1.1 (Pg.parseS text).1.2 = text ∧ ∀ x ∈ (Pg.parseS text).1.2, x.k < 18446744073709551616 := by
  have hjoin : (Pg.linesP text).flatMap (fun u => u.data.toList) = text.data.toList := lines_back (text.size + 1) text (Nat.lt_succ_self _)
  have hne : 0 < (Pg.linesP text).length := by unfold Pg.linesP Pg.linesG; simp
  unfold Pg.parseS at h ⊢
  generalize Pg.linesP text = LS at *
  cases hf : (List.range LS.length).find? (fun k => !Pg.okP LS k) with
  | some k => rw [hf] at h; cases h
  | none =>
    rw [hf] at h
    have hok : ∀ k, k < LS.length → Pg.okP LS k = true := fun k hk => by
      have := List.find?_eq_none.1 hf k (List.mem_range.2 hk)
      simpa using this
    simp only at h ⊢
    by_cases hc : (Pg.checkE (Pg.stP LS LS.length).1 (Pg.stP LS LS.length).2).1 = 0
    · rw [if_neg (by simp [hc])]
      refine ⟨hc, ?_⟩
      have hi := check_ins _ _ hc
      obtain ⟨_, _, _, hn2⟩ := checkE_two _ _ hc
      obtain ⟨m, hm⟩ : ∃ m, LS.length = m + 1 := ⟨LS.length - 1, by omega⟩
      have h00 := hok 0 (by omega)
      unfold Pg.okP at h00
      obtain ⟨n, hn, hst0⟩ := fuel_txt h00
      have hs1 : Pg.stP LS (0 + 1) = ((n : Int), []) := hst0
      have hmain : ∀ k, k ≤ m → (LS.take (k + 1)).flatMap (fun u => u.data.toList) = (Pg.fuelT (n : Int)).data.toList ++ ((Pg.stP LS (k + 1)).2.map fun x => (Pg.insT x).data.toList).flatMap (fun u => u ++ [10]) ∧ ∀ x ∈ (Pg.stP LS (k + 1)).2, x.k < 18446744073709551616 := by
        intro k
        induction k with
        | zero =>
          intro _
          rw [hs1]
          have e : LS.take (0 + 1) = [LS[0]!] := by
            cases LS with
            | nil => simp at hne
            | cons a r => rfl
          rw [e, List.flatMap_cons, List.flatMap_nil, List.append_nil, hn]
          exact ⟨by simp, by simp⟩
        | succ j ih =>
          intro hj
          obtain ⟨ih1, ih2⟩ := ih (by omega)
          have h3 := hok (j + 1) (by omega)
          unfold Pg.okP at h3
          obtain ⟨l1, l2, l3⟩ := line_txt h3 (by omega)
          have e : Pg.stP LS (j + 1 + 1) = (Pg.lineP (j + 1 + 1) LS[j + 1]! (Pg.stP LS (j + 1)).1 (Pg.stP LS (j + 1)).2).1 := rfl
          have hpre := (st_pre LS hok (m - (j + 1)) (j + 1) (by omega)).1
          rw [show j + 1 + 1 + (m - (j + 1)) = LS.length by omega] at hpre
          have hpre0 := (st_pre LS hok (m - j) j (by omega)).1
          rw [show j + 1 + (m - j) = LS.length by omega] at hpre0
          have hlen0 : (Pg.stP LS (j + 1)).2.length ≤ 64 := Nat.le_trans hpre0.length_le hn2
          have hadd : (Pg.stP LS (j + 1 + 1)).2 = (Pg.stP LS (j + 1)).2 ++ [(Pg.insP (Pg.cutN LS[j + 1]!)).1] := by
            rw [e, l3]
            show Pg.addP _ _ = _
            unfold Pg.addP
            rw [if_pos ⟨l2, hlen0⟩]
          have hins : Pg.insE (Pg.insP (Pg.cutN LS[j + 1]!)).1 (Pg.stP LS LS.length).2.length = 0 := hi _ (hpre.subset (by rw [hadd]; simp))
          obtain ⟨t1, t2⟩ := ins_txt l2 hins
          have ht : LS.take (j + 1 + 1) = LS.take (j + 1) ++ [LS[j + 1]!] := by
            rw [getElem!_pos LS (j + 1) (by omega), List.take_append_getElem]
          rw [ht, List.flatMap_append, ih1, hadd, List.map_append, List.flatMap_append, List.append_assoc]
          refine ⟨?_, ?_⟩
          · congr 2
            rw [List.flatMap_cons, List.flatMap_nil, List.append_nil, l1, List.map_cons, List.map_nil, List.flatMap_cons, List.flatMap_nil, List.append_nil, ← t1]
          · intro x hx
            rcases List.mem_append.1 hx with hx | hx
            · exact ih2 x hx
            · rw [List.mem_singleton.1 hx]; exact t2
      obtain ⟨m1, m2⟩ := hmain m (Nat.le_refl _)
      have hfst : (Pg.stP LS LS.length).1 = (n : Int) := by
        have := (st_pre LS hok m 0 (by omega)).2
        rw [show 0 + 1 + m = LS.length by omega, hs1] at this
        exact this
      rw [← hm] at m1 m2
      refine ⟨?_, m2⟩
      rw [List.take_length, hjoin] at m1
      unfold Pg.printS Pg.printT
      rw [if_pos hc, allT_flat, hfst, ← m1]
    · rw [if_pos hc] at h; exact absurd h hc
end Go.Proofs.YthfbkpkogihcbabGreatDoor
end

section
namespace Go.Proofs.YthfbkpkogihcbabGreatDoor
open Go.RowKit Go.Shelf

theorem parse_fm (text : ByteArray) (hts : text.size ≤ 4611686018427387904) (w : World) (hT : Libs w) : Calls Tryz.prog 7 #[.string text] w fun e w' => ∃ v, e = .returned (.tuple #[.agg #[.int .i64 (Pg.parseS text).1.1, v], .int .i64 (Pg.parseS text).2.1, .int .i64 (Pg.parseS text).2.2]) ∧ Cd w' v (Pg.parseS text).1.2 ∧ Below w.heap.size w w' :=
  (parseText_any text hts w hT).mono fun _ _ ⟨v, h1, h2, h3⟩ => ⟨v, h1, own_cd h2, h3⟩
theorem unpack_fm (b : ByteArray) (w : World) : Calls Tryz.prog 10 #[.string b] w fun e w' => ∃ v, e = .returned (.tuple #[.agg #[.int .i64 ((Pg.unpackS b).1.1 : Int), v], .int .i64 (Pg.unpackS b).2]) ∧ Cd w' v (Pg.unpackS b).1.2 ∧ Below w.heap.size w w' :=
  (unpack_any b w).mono fun _ _ ⟨v, h1, h2, h3⟩ => ⟨v, h1, own_cd h2, h3⟩
theorem check_fm {f : Int} {xs : List In} (hk : ∀ x ∈ xs, x.k < 18446744073709551616) (h : (Pg.checkE f xs).1 = 0) (v : Value) (w : World) (hc : Cd w v xs) : Calls Tryz.prog 8 #[.agg #[.int .i64 f, v]] w fun e w' => ∃ z : Int, e = .returned (.tuple #[.int .i64 0, .int .i64 z]) ∧ Below w.heap.size w w' := by
  have := check_any f xs hk v w hc
  rw [h] at this
  exact this.mono fun e w' ⟨h1, h2⟩ => ⟨(Pg.checkE f xs).2, h1, h2⟩
theorem print_fm {f : Int} {xs : List In} {t : ByteArray} (hk : ∀ x ∈ xs, x.k < 18446744073709551616) (h : (Pg.checkE f xs).1 = 0) (hp : Pg.printS f xs = t) (v : Value) (w : World) (hc : Cd w v xs) (hT : Libs w) : Calls Tryz.prog 9 #[.agg #[.int .i64 f, v]] w fun e w' => e = .returned (.tuple #[.string t, .int .i64 0]) ∧ Below w.heap.size w w' := by
  have := print_any f xs hk v w hc hT.tabs
  rw [h, hp] at this
  exact this
theorem pack_fm {f : Int} {xs : List In} {t : ByteArray} (hk : ∀ x ∈ xs, x.k < 18446744073709551616) (h : (Pg.checkE f xs).1 = 0) (hp : Pg.packS f xs = t) (v : Value) (w : World) (hc : Cd w v xs) : Calls Tryz.prog 11 #[.agg #[.int .i64 f, v]] w fun e w' => e = .returned (.tuple #[.string t, .int .i64 0]) ∧ Below w.heap.size w w' := by
  have := pack_any f xs hk v w hc
  rw [h, hp] at this
  exact this
set_option maxRecDepth 20000 in
set_option maxHeartbeats 1000000 in
theorem progForms_walk (text : ByteArray) (hm : text.size ≤ 140737488351232) (b : ByteArray) (_ : b.size ≤ 140737488351232) (w : World) (hT : Libs w) :
    Calls Tryz.prog 3 #[.string text, .string b] w fun e w' => e = .returned (.bool true) ∧ Below w.heap.size w w' := by
  have HT := hide hT
  have HP := hide (parse_fm text (by omega))
  have HU := hide (unpack_fm b)
  have HPB := hide (fun h => print_parse (text := text) h)
  have HUB := hide (fun h => pack_unpack (b := b) h)
  generalize Pg.parseS text = PR at *
  generalize Pg.unpackS b = UR at *
  obtain ⟨⟨pf, px⟩, pe, pl⟩ := PR
  obtain ⟨⟨uf, ux⟩, ue⟩ := UR
  simp only at HP HU HPB HUB
  have e1 : (text.toList != text.toList) = false := by simp
  have e2 : (b.toList == b.toList) = true := by simp
  clear hT hm
  go_enter Tryz.func3, Tryz.ntmps3
  go_wp2_with fail
  refine (awake_true w HT.out).mono ?_
  rintro e w1 ⟨rfl, hb1⟩
  have HB1 := hide hb1
  clear hb1
  go_wp2_with fail
  refine (HP.out w1 (HT.out.below HB1.out (Nat.le_refl _))).mono ?_
  rintro e w2 ⟨v2, rfl, hC2, hb2⟩
  obtain ⟨ad2, cap2, rfl⟩ := cd_slice hC2
  have HB2 : Hid (Below w.heap.size w w2) := HB1.out.trans (hb2.mono HB1.out.size)
  have HC3 := hide (hC2.below (below_one w2 (.cells #[.int .i64 pf, .slice ad2 px.length cap2] 25)) (Nat.le_refl _))
  have HQ3 : Hid (Pb (w2.alloc (.cells #[.int .i64 pf, .slice ad2 px.length cap2] 25)) w2.heap.size pf (.slice ad2 px.length cap2)) := heap_alloc_new w2 _
  have HB3 := hide (HB2.out.alloc HB2.out.size (.cells #[.int .i64 pf, .slice ad2 px.length cap2] 25))
  clear hb2 hC2 HB2 HB1 HP
  by_cases hpe : pe = 0
  · subst hpe
    obtain ⟨g1, g2, g3⟩ := HPB.out rfl
    have HK := hide (check_fm g3 g1)
    have HPR := hide (print_fm g3 g1 g2)
    clear g1 g2 g3 HPB
    go_wp2_with fail
    generalize w2.alloc (.cells #[.int .i64 pf, .slice ad2 px.length cap2] 25) = W3 at *
    refine (HK.out _ W3 HC3.out).mono ?_
    rintro e w4 ⟨z4, rfl, hb4⟩
    have HQ4 := hide (HQ3.out.grown (grown_below hb4 none) (by simp))
    have HC4 := hide (HC3.out.below hb4 (Nat.le_refl _))
    have HB4 : Hid (Below w.heap.size w w4) := HB3.out.trans (hb4.mono HB3.out.size)
    clear hb4 HB3 HC3 HQ3 HK
    have q0 := HQ4.out.c0
    have q1 := HQ4.out.c1
    go_wp2_with fail
    refine (HPR.out _ w4 HC4.out (HT.out.below HB4.out (Nat.le_refl _))).mono ?_
    rintro e w5 ⟨rfl, hb5⟩
    have HB5 : Hid (Below w.heap.size w w5) := HB4.out.trans (hb5.mono HB4.out.size)
    clear hb5 HB4 HC4 HQ4 q0 q1 HPR
    go_wp2_with fail
    refine (HU.out w5).mono ?_
    rintro e w6 ⟨v6, rfl, hC6, hb6⟩
    obtain ⟨ad6, cap6, rfl⟩ := cd_slice hC6
    have HB6 : Hid (Below w.heap.size w w6) := HB5.out.trans (hb6.mono HB5.out.size)
    have HC7 := hide (hC6.below (below_one w6 (.cells #[.int .i64 (uf : Int), .slice ad6 ux.length cap6] 25)) (Nat.le_refl _))
    have HQ7 : Hid (Pb (w6.alloc (.cells #[.int .i64 (uf : Int), .slice ad6 ux.length cap6] 25)) w6.heap.size (uf : Int) (.slice ad6 ux.length cap6)) := heap_alloc_new w6 _
    have HB7 := hide (HB6.out.alloc HB6.out.size (.cells #[.int .i64 (uf : Int), .slice ad6 ux.length cap6] 25))
    clear hb6 hC6 HB6 HB5 HU
    by_cases hue : ue = 0
    · subst hue
      obtain ⟨g1, g2, g3⟩ := HUB.out rfl
      have HK := hide (check_fm g3 g1)
      have HPK := hide (pack_fm g3 g1 g2)
      clear g1 g2 g3 HUB
      go_wp2_with fail
      generalize w6.alloc (.cells #[.int .i64 (uf : Int), .slice ad6 ux.length cap6] 25) = W7 at *
      refine (HK.out _ W7 HC7.out).mono ?_
      rintro e w8 ⟨z8, rfl, hb8⟩
      have HQ8 := hide (HQ7.out.grown (grown_below hb8 none) (by simp))
      have HC8 := hide (HC7.out.below hb8 (Nat.le_refl _))
      have HB8 : Hid (Below w.heap.size w w8) := HB7.out.trans (hb8.mono HB7.out.size)
      clear hb8 HB7 HC7 HQ7 HK
      have q0 := HQ8.out.c0
      have q1 := HQ8.out.c1
      go_wp2_with fail
      refine (HPK.out _ w8 HC8.out).mono ?_
      rintro e w9 ⟨rfl, hb9⟩
      have HB9 : Hid (Below w.heap.size w w9) := HB8.out.trans (hb9.mono HB8.out.size)
      clear hb9 HB8 HC8 HQ8 q0 q1
      go_wp2
      go_ret
      exact ⟨rfl, HB9.out⟩
    · have hub : (ue == 0) = false := beq_eq_false_iff_ne.2 hue
      go_wp2
      go_ret
      exact ⟨rfl, HB7.out⟩
  · have hpb : (pe == 0) = false := beq_eq_false_iff_ne.2 hpe
    go_wp2_with fail
    refine (HU.out _).mono ?_
    rintro e w6 ⟨v6, rfl, hC6, hb6⟩
    obtain ⟨ad6, cap6, rfl⟩ := cd_slice hC6
    have HB6 : Hid (Below w.heap.size w w6) := HB3.out.trans (hb6.mono HB3.out.size)
    have HC7 := hide (hC6.below (below_one w6 (.cells #[.int .i64 (uf : Int), .slice ad6 ux.length cap6] 25)) (Nat.le_refl _))
    have HQ7 : Hid (Pb (w6.alloc (.cells #[.int .i64 (uf : Int), .slice ad6 ux.length cap6] 25)) w6.heap.size (uf : Int) (.slice ad6 ux.length cap6)) := heap_alloc_new w6 _
    have HB7 := hide (HB6.out.alloc HB6.out.size (.cells #[.int .i64 (uf : Int), .slice ad6 ux.length cap6] 25))
    clear hb6 hC6 HB6 HB3 HU
    by_cases hue : ue = 0
    · subst hue
      obtain ⟨g1, g2, g3⟩ := HUB.out rfl
      have HK := hide (check_fm g3 g1)
      have HPK := hide (pack_fm g3 g1 g2)
      clear g1 g2 g3 HUB
      go_wp2_with fail
      generalize w6.alloc (.cells #[.int .i64 (uf : Int), .slice ad6 ux.length cap6] 25) = W7 at *
      refine (HK.out _ W7 HC7.out).mono ?_
      rintro e w8 ⟨z8, rfl, hb8⟩
      have HQ8 := hide (HQ7.out.grown (grown_below hb8 none) (by simp))
      have HC8 := hide (HC7.out.below hb8 (Nat.le_refl _))
      have HB8 : Hid (Below w.heap.size w w8) := HB7.out.trans (hb8.mono HB7.out.size)
      clear hb8 HB7 HC7 HQ7 HK
      have q0 := HQ8.out.c0
      have q1 := HQ8.out.c1
      go_wp2_with fail
      refine (HPK.out _ w8 HC8.out).mono ?_
      rintro e w9 ⟨rfl, hb9⟩
      have HB9 : Hid (Below w.heap.size w w9) := HB8.out.trans (hb9.mono HB8.out.size)
      clear hb9 HB8 HC8 HQ8 q0 q1
      go_wp2
      go_ret
      exact ⟨rfl, HB9.out⟩
    · have hub : (ue == 0) = false := beq_eq_false_iff_ne.2 hue
      go_wp2
      go_ret
      exact ⟨rfl, HB7.out⟩
end Go.Proofs.YthfbkpkogihcbabGreatDoor
end
