import Derived.Test.YtfmanndadjdpbaaMgAP

section
namespace Go.Proofs.Ytfmanndadjdpbaa.K
open Go.RowKit Go.MapKept
set_option maxRecDepth 8000

/-- Put's error -/
def pE (A : List Az) (job bdg idx : Int) (t : ByteArray) : Int :=
  if job < 1 ∨ 8 < job then 160 else if 32 < t.size ∨ (idx = 0 ∧ t.size ≠ 0) then 163 else if bdg < 1 ∨ 1099511627776 < bdg ∨ bdg < (fnd job A).bdg then 161 else if idx < 0 ∨ 16 < idx ∨ cntA A job bdg < idx then 162 else 0
/-- behind a Put -/
def PuP (b m : Nat) (A : List Az) (tv : Value) (T : List Ev) (job bdg idx : Int) (t : ByteArray) (w : World) (e : Ending) (w' : World) : Prop :=
  (pE A job bdg idx t ≠ 0 ∧ e = .returned (.tuple #[.int .i64 0, .bool false, .int .i64 (pE A job bdg idx t)]) ∧ Below w.heap.size w w') ∨
  (pE A job bdg idx t = 0 ∧ idx < cntA A job bdg ∧ e = .returned (.tuple #[.int .i64 (cntA A job bdg), .bool false, .int .i64 0]) ∧ Below w.heap.size w w') ∨
  (pE A job bdg idx t = 0 ∧ idx = cntA A job bdg ∧ e = .returned (.tuple #[.int .i64 (cntA A job bdg + 1), .bool true, .int .i64 0]) ∧ AdP b m A tv T job bdg idx t (if idx = 0 then [] else (fnd job A).pcs ++ [t]) w w')
theorem size_nil {t : ByteArray} (h : t.size = 0) : t = ⟨#[]⟩ := by
  cases t with
  | mk d =>
    have : d = #[] := Array.eq_empty_of_size_eq_zero h
    rw [this]
theorem nil_size {t : ByteArray} (h : t.size ≠ 0) : t.toList.isEmpty = false := by
  rw [ByteArray.toList_eq]
  cases hd : t.data.toList with
  | nil => exact absurd (by have := congrArg List.length hd; simpa using this) h
  | cons a l => rfl
theorem AdP.pre {b m : Nat} {A : List Az} {tv : Value} {T : List Ev} {job bdg idx : Int} {t : ByteArray} {ps : List ByteArray} {w w1 w' : World} (hb : Below w.heap.size w w1) (h : AdP b m A tv T job bdg idx t ps w1 w') : AdP b m A tv T job bdg idx t ps w w' := by
  obtain ⟨x, tv', h1, h2, h3, h4, h5, h6⟩ := h
  refine ⟨x, tv', h1, h2, h3, h4, (Mv.of_below hb).trans h5 (fun _ h => .inl h), fun k hk => ?_⟩
  rcases h6 k hk with h | h
  · exact .inl h
  · exact .inr (Nat.le_trans hb.size h)
theorem cntA_le {w : World} {b m : Nat} {A : List Az} {tv : Value} {T : List Ev} {j : Int} (h : Sb w b m A tv T j) (job bdg : Int) : 0 ≤ cntA A job bdg ∧ cntA A job bdg ≤ 17 := by
  unfold cntA
  split
  · rename_i hh
    have := (h.ok _ (fnd_mem hh.1).1).2.2.2.2
    omega
  · omega
theorem fnd_bd {w : World} {b m : Nat} {A : List Az} {tv : Value} {T : List Ev} {j : Int} (h : Sb w b m A tv T j) (job : Int) : 0 ≤ (fnd job A).bdg ∧ (fnd job A).bdg ≤ 1099511627776 := by
  cases hh : has job A with
  | true => have := h.ok _ (fnd_mem hh).1; omega
  | false => rw [fnd_none hh]; simp [az0]
set_option maxHeartbeats 4000000 in
theorem put_job1 {w : World} {b m : Nat} {A : List Az} {tv : Value} {T : List Ev} (h : Sb w b m A tv T 0) (hT : T.length ≤ 1600000000000) {job bdg idx : Int} {t : ByteArray} (h1 : job < 1) :
    Calls Try.prog 7 #[.pointer (some ⟨b, 0, none⟩), .int .i64 job, .int .i64 bdg, .int .i64 idx, .string t] w (PuP b m A tv T job bdg idx t w) := by
  have H := hide h
  have HT := hide hT
  have HC := hide (count_any h job bdg)
  obtain ⟨cn0, cn1⟩ := cntA_le h job bdg
  obtain ⟨fb0, fb1⟩ := fnd_bd h job
  have c0 : ∀ w1, Below w.heap.size w w1 → w1.cell? ⟨b, 0, none⟩ = some (.map (some m)) := fun w1 hb => (h.below hb).c0
  have hlk : ∀ w1, Below w.heap.size w w1 → (Instr.lookup 44 (.map (some m)) (.int .i64 job) false).run Try.prog w1 = .ok (fnd job A).val w1 := fun w1 hb => (h.map.below hb).look1 job
  have hf1 := field1
  have hu := hide (And.intro True.intro h1)
  clear hu
  have d1 : decide (job < 1) = true := by simp; omega
  have HE : Hid (pE A job bdg idx t = 160) := hide (by unfold pE; rw [if_pos (by omega)])
  clear h hT
  generalize hcn : cntA A job bdg = cn at *
  generalize hfn : fnd job A = x at *
  obtain ⟨xj, xb, ad0, cap0, pcs⟩ := x
  simp only at *
  dsimp only [Az.val] at hlk
  go_enter Try.func7, Try.ntmps7
  go_wp2_with fail
  refine HC.out.mono ?_
  rintro e w1 ⟨rfl, hb1⟩
  have HB1 := hide hb1
  have k0 := c0 w1 hb1
  have kl := hlk w1 hb1
  clear c0 hlk hb1
  go_wp2_with fail
  go_ret3
  refine .inl ⟨?_, ?_, HB1.out⟩
  · rw [HE.out]; decide
  · rw [HE.out]; rfl

set_option maxHeartbeats 4000000 in
theorem put_job8 {w : World} {b m : Nat} {A : List Az} {tv : Value} {T : List Ev} (h : Sb w b m A tv T 0) (hT : T.length ≤ 1600000000000) {job bdg idx : Int} {t : ByteArray} (h1 : ¬ job < 1) (h2 : 8 < job) :
    Calls Try.prog 7 #[.pointer (some ⟨b, 0, none⟩), .int .i64 job, .int .i64 bdg, .int .i64 idx, .string t] w (PuP b m A tv T job bdg idx t w) := by
  have H := hide h
  have HT := hide hT
  have HC := hide (count_any h job bdg)
  obtain ⟨cn0, cn1⟩ := cntA_le h job bdg
  obtain ⟨fb0, fb1⟩ := fnd_bd h job
  have c0 : ∀ w1, Below w.heap.size w w1 → w1.cell? ⟨b, 0, none⟩ = some (.map (some m)) := fun w1 hb => (h.below hb).c0
  have hlk : ∀ w1, Below w.heap.size w w1 → (Instr.lookup 44 (.map (some m)) (.int .i64 job) false).run Try.prog w1 = .ok (fnd job A).val w1 := fun w1 hb => (h.map.below hb).look1 job
  have hf1 := field1
  have hu := hide (And.intro True.intro (And.intro h1 h2))
  clear hu
  have d1 : decide (job < 1) = false := by simp; omega
  have d2 : decide (8 < job) = true := by simp; omega
  have HE : Hid (pE A job bdg idx t = 160) := hide (by unfold pE; rw [if_pos (by omega)])
  clear h hT
  generalize hcn : cntA A job bdg = cn at *
  generalize hfn : fnd job A = x at *
  obtain ⟨xj, xb, ad0, cap0, pcs⟩ := x
  simp only at *
  dsimp only [Az.val] at hlk
  go_enter Try.func7, Try.ntmps7
  go_wp2_with fail
  refine HC.out.mono ?_
  rintro e w1 ⟨rfl, hb1⟩
  have HB1 := hide hb1
  have k0 := c0 w1 hb1
  have kl := hlk w1 hb1
  clear c0 hlk hb1
  go_wp2_with fail
  go_ret3
  refine .inl ⟨?_, ?_, HB1.out⟩
  · rw [HE.out]; decide
  · rw [HE.out]; rfl

set_option maxHeartbeats 4000000 in
theorem put_long {w : World} {b m : Nat} {A : List Az} {tv : Value} {T : List Ev} (h : Sb w b m A tv T 0) (hT : T.length ≤ 1600000000000) {job bdg idx : Int} {t : ByteArray} (h1 : 1 ≤ job) (h2 : job ≤ 8) (h3 : 32 < t.size) :
    Calls Try.prog 7 #[.pointer (some ⟨b, 0, none⟩), .int .i64 job, .int .i64 bdg, .int .i64 idx, .string t] w (PuP b m A tv T job bdg idx t w) := by
  have H := hide h
  have HT := hide hT
  have HC := hide (count_any h job bdg)
  obtain ⟨cn0, cn1⟩ := cntA_le h job bdg
  obtain ⟨fb0, fb1⟩ := fnd_bd h job
  have c0 : ∀ w1, Below w.heap.size w w1 → w1.cell? ⟨b, 0, none⟩ = some (.map (some m)) := fun w1 hb => (h.below hb).c0
  have hlk : ∀ w1, Below w.heap.size w w1 → (Instr.lookup 44 (.map (some m)) (.int .i64 job) false).run Try.prog w1 = .ok (fnd job A).val w1 := fun w1 hb => (h.map.below hb).look1 job
  have hf1 := field1
  have hu := hide (And.intro True.intro (And.intro h1 (And.intro h2 h3)))
  clear hu
  have d1 : decide (job < 1) = false := by simp; omega
  have d2 : decide (8 < job) = false := by simp; omega
  have d3 : decide (32 < t.size) = true := by simp; omega
  have HE : Hid (pE A job bdg idx t = 163) := hide (by unfold pE; rw [if_neg (by omega), if_pos (by omega)])
  clear h hT
  generalize hcn : cntA A job bdg = cn at *
  generalize hfn : fnd job A = x at *
  obtain ⟨xj, xb, ad0, cap0, pcs⟩ := x
  simp only at *
  dsimp only [Az.val] at hlk
  go_enter Try.func7, Try.ntmps7
  go_wp2_with fail
  refine HC.out.mono ?_
  rintro e w1 ⟨rfl, hb1⟩
  have HB1 := hide hb1
  have k0 := c0 w1 hb1
  have kl := hlk w1 hb1
  clear c0 hlk hb1
  go_wp2_with fail
  go_ret3
  refine .inl ⟨?_, ?_, HB1.out⟩
  · rw [HE.out]; decide
  · rw [HE.out]; rfl

set_option maxHeartbeats 4000000 in
theorem put_claim {w : World} {b m : Nat} {A : List Az} {tv : Value} {T : List Ev} (h : Sb w b m A tv T 0) (hT : T.length ≤ 1600000000000) {job bdg idx : Int} {t : ByteArray} (h1 : 1 ≤ job) (h2 : job ≤ 8) (h3 : ¬ 32 < t.size) (h4 : idx = 0) (h5 : t.size ≠ 0) :
    Calls Try.prog 7 #[.pointer (some ⟨b, 0, none⟩), .int .i64 job, .int .i64 bdg, .int .i64 idx, .string t] w (PuP b m A tv T job bdg idx t w) := by
  have H := hide h
  have HT := hide hT
  have HC := hide (count_any h job bdg)
  obtain ⟨cn0, cn1⟩ := cntA_le h job bdg
  obtain ⟨fb0, fb1⟩ := fnd_bd h job
  have c0 : ∀ w1, Below w.heap.size w w1 → w1.cell? ⟨b, 0, none⟩ = some (.map (some m)) := fun w1 hb => (h.below hb).c0
  have hlk : ∀ w1, Below w.heap.size w w1 → (Instr.lookup 44 (.map (some m)) (.int .i64 job) false).run Try.prog w1 = .ok (fnd job A).val w1 := fun w1 hb => (h.map.below hb).look1 job
  have hf1 := field1
  have hu := hide (And.intro True.intro (And.intro h1 (And.intro h2 (And.intro h3 (And.intro h4 h5)))))
  clear hu
  have d1 : decide (job < 1) = false := by simp; omega
  have d2 : decide (8 < job) = false := by simp; omega
  have d3 : decide (32 < t.size) = false := by simp; omega
  have d4 : (idx == 0) = true := by simpa using h4
  have d5 : t.toList.isEmpty = false := nil_size h5
  have d6 : (!t.toList.isEmpty) = true := by rw [d5]; rfl
  have HE : Hid (pE A job bdg idx t = 163) := hide (by unfold pE; rw [if_neg (by omega), if_pos (by omega)])
  clear h hT
  generalize hcn : cntA A job bdg = cn at *
  generalize hfn : fnd job A = x at *
  obtain ⟨xj, xb, ad0, cap0, pcs⟩ := x
  simp only at *
  dsimp only [Az.val] at hlk
  go_enter Try.func7, Try.ntmps7
  go_wp2_with fail
  refine HC.out.mono ?_
  rintro e w1 ⟨rfl, hb1⟩
  have HB1 := hide hb1
  have k0 := c0 w1 hb1
  have kl := hlk w1 hb1
  clear c0 hlk hb1
  go_wp2_with fail
  go_ret3
  refine .inl ⟨?_, ?_, HB1.out⟩
  · rw [HE.out]; decide
  · rw [HE.out]; rfl

set_option maxHeartbeats 4000000 in
theorem put_bdg1i {w : World} {b m : Nat} {A : List Az} {tv : Value} {T : List Ev} (h : Sb w b m A tv T 0) (hT : T.length ≤ 1600000000000) {job bdg idx : Int} {t : ByteArray} (h1 : 1 ≤ job) (h2 : job ≤ 8) (h3 : ¬ 32 < t.size) (h4 : idx ≠ 0) (h7 : bdg < 1) :
    Calls Try.prog 7 #[.pointer (some ⟨b, 0, none⟩), .int .i64 job, .int .i64 bdg, .int .i64 idx, .string t] w (PuP b m A tv T job bdg idx t w) := by
  have H := hide h
  have HT := hide hT
  have HC := hide (count_any h job bdg)
  obtain ⟨cn0, cn1⟩ := cntA_le h job bdg
  obtain ⟨fb0, fb1⟩ := fnd_bd h job
  have c0 : ∀ w1, Below w.heap.size w w1 → w1.cell? ⟨b, 0, none⟩ = some (.map (some m)) := fun w1 hb => (h.below hb).c0
  have hlk : ∀ w1, Below w.heap.size w w1 → (Instr.lookup 44 (.map (some m)) (.int .i64 job) false).run Try.prog w1 = .ok (fnd job A).val w1 := fun w1 hb => (h.map.below hb).look1 job
  have hf1 := field1
  have hu := hide (And.intro True.intro (And.intro h1 (And.intro h2 (And.intro h3 (And.intro h4 h7)))))
  clear hu
  have d1 : decide (job < 1) = false := by simp; omega
  have d2 : decide (8 < job) = false := by simp; omega
  have d3 : decide (32 < t.size) = false := by simp; omega
  have d4 : (idx == 0) = false := by simp; omega
  have d7 : decide (bdg < 1) = true := by simp; omega
  have HE : Hid (pE A job bdg idx t = 161) := hide (by unfold pE; rw [if_neg (by omega), if_neg (by omega), if_pos (by omega)])
  clear h hT
  generalize hcn : cntA A job bdg = cn at *
  generalize hfn : fnd job A = x at *
  obtain ⟨xj, xb, ad0, cap0, pcs⟩ := x
  simp only at *
  dsimp only [Az.val] at hlk
  go_enter Try.func7, Try.ntmps7
  go_wp2_with fail
  refine HC.out.mono ?_
  rintro e w1 ⟨rfl, hb1⟩
  have HB1 := hide hb1
  have k0 := c0 w1 hb1
  have kl := hlk w1 hb1
  clear c0 hlk hb1
  go_wp2_with fail
  go_ret3
  refine .inl ⟨?_, ?_, HB1.out⟩
  · rw [HE.out]; decide
  · rw [HE.out]; rfl

set_option maxHeartbeats 4000000 in
theorem put_bdg2i {w : World} {b m : Nat} {A : List Az} {tv : Value} {T : List Ev} (h : Sb w b m A tv T 0) (hT : T.length ≤ 1600000000000) {job bdg idx : Int} {t : ByteArray} (h1 : 1 ≤ job) (h2 : job ≤ 8) (h3 : ¬ 32 < t.size) (h4 : idx ≠ 0) (h7 : ¬ bdg < 1) (h8 : 1099511627776 < bdg) :
    Calls Try.prog 7 #[.pointer (some ⟨b, 0, none⟩), .int .i64 job, .int .i64 bdg, .int .i64 idx, .string t] w (PuP b m A tv T job bdg idx t w) := by
  have H := hide h
  have HT := hide hT
  have HC := hide (count_any h job bdg)
  obtain ⟨cn0, cn1⟩ := cntA_le h job bdg
  obtain ⟨fb0, fb1⟩ := fnd_bd h job
  have c0 : ∀ w1, Below w.heap.size w w1 → w1.cell? ⟨b, 0, none⟩ = some (.map (some m)) := fun w1 hb => (h.below hb).c0
  have hlk : ∀ w1, Below w.heap.size w w1 → (Instr.lookup 44 (.map (some m)) (.int .i64 job) false).run Try.prog w1 = .ok (fnd job A).val w1 := fun w1 hb => (h.map.below hb).look1 job
  have hf1 := field1
  have hu := hide (And.intro True.intro (And.intro h1 (And.intro h2 (And.intro h3 (And.intro h4 (And.intro h7 h8))))))
  clear hu
  have d1 : decide (job < 1) = false := by simp; omega
  have d2 : decide (8 < job) = false := by simp; omega
  have d3 : decide (32 < t.size) = false := by simp; omega
  have d4 : (idx == 0) = false := by simp; omega
  have d7 : decide (bdg < 1) = false := by simp; omega
  have d8 : decide (1099511627776 < bdg) = true := by simp; omega
  have HE : Hid (pE A job bdg idx t = 161) := hide (by unfold pE; rw [if_neg (by omega), if_neg (by omega), if_pos (by omega)])
  clear h hT
  generalize hcn : cntA A job bdg = cn at *
  generalize hfn : fnd job A = x at *
  obtain ⟨xj, xb, ad0, cap0, pcs⟩ := x
  simp only at *
  dsimp only [Az.val] at hlk
  go_enter Try.func7, Try.ntmps7
  go_wp2_with fail
  refine HC.out.mono ?_
  rintro e w1 ⟨rfl, hb1⟩
  have HB1 := hide hb1
  have k0 := c0 w1 hb1
  have kl := hlk w1 hb1
  clear c0 hlk hb1
  go_wp2_with fail
  go_ret3
  refine .inl ⟨?_, ?_, HB1.out⟩
  · rw [HE.out]; decide
  · rw [HE.out]; rfl

set_option maxHeartbeats 4000000 in
theorem put_bdg3i {w : World} {b m : Nat} {A : List Az} {tv : Value} {T : List Ev} (h : Sb w b m A tv T 0) (hT : T.length ≤ 1600000000000) {job bdg idx : Int} {t : ByteArray} (h1 : 1 ≤ job) (h2 : job ≤ 8) (h3 : ¬ 32 < t.size) (h4 : idx ≠ 0) (h7 : 1 ≤ bdg) (h8 : bdg ≤ 1099511627776) (h9 : bdg < (fnd job A).bdg) :
    Calls Try.prog 7 #[.pointer (some ⟨b, 0, none⟩), .int .i64 job, .int .i64 bdg, .int .i64 idx, .string t] w (PuP b m A tv T job bdg idx t w) := by
  have H := hide h
  have HT := hide hT
  have HC := hide (count_any h job bdg)
  obtain ⟨cn0, cn1⟩ := cntA_le h job bdg
  obtain ⟨fb0, fb1⟩ := fnd_bd h job
  have c0 : ∀ w1, Below w.heap.size w w1 → w1.cell? ⟨b, 0, none⟩ = some (.map (some m)) := fun w1 hb => (h.below hb).c0
  have hlk : ∀ w1, Below w.heap.size w w1 → (Instr.lookup 44 (.map (some m)) (.int .i64 job) false).run Try.prog w1 = .ok (fnd job A).val w1 := fun w1 hb => (h.map.below hb).look1 job
  have hf1 := field1
  have hu := hide (And.intro True.intro (And.intro h1 (And.intro h2 (And.intro h3 (And.intro h4 (And.intro h7 (And.intro h8 h9)))))))
  clear hu
  have d1 : decide (job < 1) = false := by simp; omega
  have d2 : decide (8 < job) = false := by simp; omega
  have d3 : decide (32 < t.size) = false := by simp; omega
  have d4 : (idx == 0) = false := by simp; omega
  have d7 : decide (bdg < 1) = false := by simp; omega
  have d8 : decide (1099511627776 < bdg) = false := by simp; omega
  have d9 : decide (bdg < (fnd job A).bdg) = true := by simp; omega
  have HE : Hid (pE A job bdg idx t = 161) := hide (by unfold pE; rw [if_neg (by omega), if_neg (by omega), if_pos (by omega)])
  clear h hT
  generalize hcn : cntA A job bdg = cn at *
  generalize hfn : fnd job A = x at *
  obtain ⟨xj, xb, ad0, cap0, pcs⟩ := x
  simp only at *
  dsimp only [Az.val] at hlk
  go_enter Try.func7, Try.ntmps7
  go_wp2_with fail
  refine HC.out.mono ?_
  rintro e w1 ⟨rfl, hb1⟩
  have HB1 := hide hb1
  have k0 := c0 w1 hb1
  have kl := hlk w1 hb1
  clear c0 hlk hb1
  go_wp2_with fail
  go_ret3
  refine .inl ⟨?_, ?_, HB1.out⟩
  · rw [HE.out]; decide
  · rw [HE.out]; rfl

set_option maxHeartbeats 4000000 in
theorem put_plc1i {w : World} {b m : Nat} {A : List Az} {tv : Value} {T : List Ev} (h : Sb w b m A tv T 0) (hT : T.length ≤ 1600000000000) {job bdg idx : Int} {t : ByteArray} (h1 : 1 ≤ job) (h2 : job ≤ 8) (h3 : ¬ 32 < t.size) (h4 : idx ≠ 0) (h7 : 1 ≤ bdg) (h8 : bdg ≤ 1099511627776) (h9 : ¬ bdg < (fnd job A).bdg) (h10 : idx < 0) :
    Calls Try.prog 7 #[.pointer (some ⟨b, 0, none⟩), .int .i64 job, .int .i64 bdg, .int .i64 idx, .string t] w (PuP b m A tv T job bdg idx t w) := by
  have H := hide h
  have HT := hide hT
  have HC := hide (count_any h job bdg)
  obtain ⟨cn0, cn1⟩ := cntA_le h job bdg
  obtain ⟨fb0, fb1⟩ := fnd_bd h job
  have c0 : ∀ w1, Below w.heap.size w w1 → w1.cell? ⟨b, 0, none⟩ = some (.map (some m)) := fun w1 hb => (h.below hb).c0
  have hlk : ∀ w1, Below w.heap.size w w1 → (Instr.lookup 44 (.map (some m)) (.int .i64 job) false).run Try.prog w1 = .ok (fnd job A).val w1 := fun w1 hb => (h.map.below hb).look1 job
  have hf1 := field1
  have hu := hide (And.intro True.intro (And.intro h1 (And.intro h2 (And.intro h3 (And.intro h4 (And.intro h7 (And.intro h8 (And.intro h9 h10))))))))
  clear hu
  have d1 : decide (job < 1) = false := by simp; omega
  have d2 : decide (8 < job) = false := by simp; omega
  have d3 : decide (32 < t.size) = false := by simp; omega
  have d4 : (idx == 0) = false := by simp; omega
  have d7 : decide (bdg < 1) = false := by simp; omega
  have d8 : decide (1099511627776 < bdg) = false := by simp; omega
  have d9 : decide (bdg < (fnd job A).bdg) = false := by simp; omega
  have d10 : decide (idx < 0) = true := by simp; omega
  have HE : Hid (pE A job bdg idx t = 162) := hide (by unfold pE; rw [if_neg (by omega), if_neg (by omega), if_neg (by omega), if_pos (by omega)])
  clear h hT
  generalize hcn : cntA A job bdg = cn at *
  generalize hfn : fnd job A = x at *
  obtain ⟨xj, xb, ad0, cap0, pcs⟩ := x
  simp only at *
  dsimp only [Az.val] at hlk
  go_enter Try.func7, Try.ntmps7
  go_wp2_with fail
  refine HC.out.mono ?_
  rintro e w1 ⟨rfl, hb1⟩
  have HB1 := hide hb1
  have k0 := c0 w1 hb1
  have kl := hlk w1 hb1
  clear c0 hlk hb1
  go_wp2_with fail
  go_ret3
  refine .inl ⟨?_, ?_, HB1.out⟩
  · rw [HE.out]; decide
  · rw [HE.out]; rfl

set_option maxHeartbeats 4000000 in
theorem put_plc2i {w : World} {b m : Nat} {A : List Az} {tv : Value} {T : List Ev} (h : Sb w b m A tv T 0) (hT : T.length ≤ 1600000000000) {job bdg idx : Int} {t : ByteArray} (h1 : 1 ≤ job) (h2 : job ≤ 8) (h3 : ¬ 32 < t.size) (h4 : idx ≠ 0) (h7 : 1 ≤ bdg) (h8 : bdg ≤ 1099511627776) (h9 : ¬ bdg < (fnd job A).bdg) (h10 : ¬ idx < 0) (h11 : 16 < idx) :
    Calls Try.prog 7 #[.pointer (some ⟨b, 0, none⟩), .int .i64 job, .int .i64 bdg, .int .i64 idx, .string t] w (PuP b m A tv T job bdg idx t w) := by
  have H := hide h
  have HT := hide hT
  have HC := hide (count_any h job bdg)
  obtain ⟨cn0, cn1⟩ := cntA_le h job bdg
  obtain ⟨fb0, fb1⟩ := fnd_bd h job
  have c0 : ∀ w1, Below w.heap.size w w1 → w1.cell? ⟨b, 0, none⟩ = some (.map (some m)) := fun w1 hb => (h.below hb).c0
  have hlk : ∀ w1, Below w.heap.size w w1 → (Instr.lookup 44 (.map (some m)) (.int .i64 job) false).run Try.prog w1 = .ok (fnd job A).val w1 := fun w1 hb => (h.map.below hb).look1 job
  have hf1 := field1
  have hu := hide (And.intro True.intro (And.intro h1 (And.intro h2 (And.intro h3 (And.intro h4 (And.intro h7 (And.intro h8 (And.intro h9 (And.intro h10 h11)))))))))
  clear hu
  have d1 : decide (job < 1) = false := by simp; omega
  have d2 : decide (8 < job) = false := by simp; omega
  have d3 : decide (32 < t.size) = false := by simp; omega
  have d4 : (idx == 0) = false := by simp; omega
  have d7 : decide (bdg < 1) = false := by simp; omega
  have d8 : decide (1099511627776 < bdg) = false := by simp; omega
  have d9 : decide (bdg < (fnd job A).bdg) = false := by simp; omega
  have d10 : decide (idx < 0) = false := by simp; omega
  have d11 : decide (16 < idx) = true := by simp; omega
  have HE : Hid (pE A job bdg idx t = 162) := hide (by unfold pE; rw [if_neg (by omega), if_neg (by omega), if_neg (by omega), if_pos (by omega)])
  clear h hT
  generalize hcn : cntA A job bdg = cn at *
  generalize hfn : fnd job A = x at *
  obtain ⟨xj, xb, ad0, cap0, pcs⟩ := x
  simp only at *
  dsimp only [Az.val] at hlk
  go_enter Try.func7, Try.ntmps7
  go_wp2_with fail
  refine HC.out.mono ?_
  rintro e w1 ⟨rfl, hb1⟩
  have HB1 := hide hb1
  have k0 := c0 w1 hb1
  have kl := hlk w1 hb1
  clear c0 hlk hb1
  go_wp2_with fail
  go_ret3
  refine .inl ⟨?_, ?_, HB1.out⟩
  · rw [HE.out]; decide
  · rw [HE.out]; rfl

set_option maxHeartbeats 4000000 in
theorem put_plc3i {w : World} {b m : Nat} {A : List Az} {tv : Value} {T : List Ev} (h : Sb w b m A tv T 0) (hT : T.length ≤ 1600000000000) {job bdg idx : Int} {t : ByteArray} (h1 : 1 ≤ job) (h2 : job ≤ 8) (h3 : ¬ 32 < t.size) (h4 : idx ≠ 0) (h7 : 1 ≤ bdg) (h8 : bdg ≤ 1099511627776) (h9 : ¬ bdg < (fnd job A).bdg) (h10 : ¬ idx < 0) (h11 : ¬ 16 < idx) (h12 : cntA A job bdg < idx) :
    Calls Try.prog 7 #[.pointer (some ⟨b, 0, none⟩), .int .i64 job, .int .i64 bdg, .int .i64 idx, .string t] w (PuP b m A tv T job bdg idx t w) := by
  have H := hide h
  have HT := hide hT
  have HC := hide (count_any h job bdg)
  obtain ⟨cn0, cn1⟩ := cntA_le h job bdg
  obtain ⟨fb0, fb1⟩ := fnd_bd h job
  have c0 : ∀ w1, Below w.heap.size w w1 → w1.cell? ⟨b, 0, none⟩ = some (.map (some m)) := fun w1 hb => (h.below hb).c0
  have hlk : ∀ w1, Below w.heap.size w w1 → (Instr.lookup 44 (.map (some m)) (.int .i64 job) false).run Try.prog w1 = .ok (fnd job A).val w1 := fun w1 hb => (h.map.below hb).look1 job
  have hf1 := field1
  have hu := hide (And.intro True.intro (And.intro h1 (And.intro h2 (And.intro h3 (And.intro h4 (And.intro h7 (And.intro h8 (And.intro h9 (And.intro h10 (And.intro h11 h12))))))))))
  clear hu
  have d1 : decide (job < 1) = false := by simp; omega
  have d2 : decide (8 < job) = false := by simp; omega
  have d3 : decide (32 < t.size) = false := by simp; omega
  have d4 : (idx == 0) = false := by simp; omega
  have d7 : decide (bdg < 1) = false := by simp; omega
  have d8 : decide (1099511627776 < bdg) = false := by simp; omega
  have d9 : decide (bdg < (fnd job A).bdg) = false := by simp; omega
  have d10 : decide (idx < 0) = false := by simp; omega
  have d11 : decide (16 < idx) = false := by simp; omega
  have d12 : decide (cntA A job bdg < idx) = true := by simp; omega
  have HE : Hid (pE A job bdg idx t = 162) := hide (by unfold pE; rw [if_neg (by omega), if_neg (by omega), if_neg (by omega), if_pos (by omega)])
  clear h hT
  generalize hcn : cntA A job bdg = cn at *
  generalize hfn : fnd job A = x at *
  obtain ⟨xj, xb, ad0, cap0, pcs⟩ := x
  simp only at *
  dsimp only [Az.val] at hlk
  go_enter Try.func7, Try.ntmps7
  go_wp2_with fail
  refine HC.out.mono ?_
  rintro e w1 ⟨rfl, hb1⟩
  have HB1 := hide hb1
  have k0 := c0 w1 hb1
  have kl := hlk w1 hb1
  clear c0 hlk hb1
  go_wp2_with fail
  go_ret3
  refine .inl ⟨?_, ?_, HB1.out⟩
  · rw [HE.out]; decide
  · rw [HE.out]; rfl

set_option maxHeartbeats 4000000 in
theorem put_oldi {w : World} {b m : Nat} {A : List Az} {tv : Value} {T : List Ev} (h : Sb w b m A tv T 0) (hT : T.length ≤ 1600000000000) {job bdg idx : Int} {t : ByteArray} (h1 : 1 ≤ job) (h2 : job ≤ 8) (h3 : ¬ 32 < t.size) (h4 : idx ≠ 0) (h7 : 1 ≤ bdg) (h8 : bdg ≤ 1099511627776) (h9 : ¬ bdg < (fnd job A).bdg) (h10 : ¬ idx < 0) (h11 : ¬ 16 < idx) (h12 : ¬ cntA A job bdg < idx) (h13 : idx < cntA A job bdg) :
    Calls Try.prog 7 #[.pointer (some ⟨b, 0, none⟩), .int .i64 job, .int .i64 bdg, .int .i64 idx, .string t] w (PuP b m A tv T job bdg idx t w) := by
  have H := hide h
  have HT := hide hT
  have HC := hide (count_any h job bdg)
  obtain ⟨cn0, cn1⟩ := cntA_le h job bdg
  obtain ⟨fb0, fb1⟩ := fnd_bd h job
  have c0 : ∀ w1, Below w.heap.size w w1 → w1.cell? ⟨b, 0, none⟩ = some (.map (some m)) := fun w1 hb => (h.below hb).c0
  have hlk : ∀ w1, Below w.heap.size w w1 → (Instr.lookup 44 (.map (some m)) (.int .i64 job) false).run Try.prog w1 = .ok (fnd job A).val w1 := fun w1 hb => (h.map.below hb).look1 job
  have hf1 := field1
  have hu := hide (And.intro True.intro (And.intro h1 (And.intro h2 (And.intro h3 (And.intro h4 (And.intro h7 (And.intro h8 (And.intro h9 (And.intro h10 (And.intro h11 (And.intro h12 h13)))))))))))
  clear hu
  have d1 : decide (job < 1) = false := by simp; omega
  have d2 : decide (8 < job) = false := by simp; omega
  have d3 : decide (32 < t.size) = false := by simp; omega
  have d4 : (idx == 0) = false := by simp; omega
  have d7 : decide (bdg < 1) = false := by simp; omega
  have d8 : decide (1099511627776 < bdg) = false := by simp; omega
  have d9 : decide (bdg < (fnd job A).bdg) = false := by simp; omega
  have d10 : decide (idx < 0) = false := by simp; omega
  have d11 : decide (16 < idx) = false := by simp; omega
  have d12 : decide (cntA A job bdg < idx) = false := by simp; omega
  have d13 : decide (idx < cntA A job bdg) = true := by simp; omega
  have HE : Hid (pE A job bdg idx t = 0) := hide (by unfold pE; rw [if_neg (by omega), if_neg (by omega), if_neg (by omega), if_neg (by omega)])
  clear h hT
  generalize hcn : cntA A job bdg = cn at *
  generalize hfn : fnd job A = x at *
  obtain ⟨xj, xb, ad0, cap0, pcs⟩ := x
  simp only at *
  dsimp only [Az.val] at hlk
  go_enter Try.func7, Try.ntmps7
  go_wp2_with fail
  refine HC.out.mono ?_
  rintro e w1 ⟨rfl, hb1⟩
  have HB1 := hide hb1
  have k0 := c0 w1 hb1
  have kl := hlk w1 hb1
  clear c0 hlk hb1
  go_wp2_with fail
  go_ret3
  exact .inr (.inl ⟨HE.out, by rw [hcn]; exact h13, by rw [hcn]; rfl, HB1.out⟩)

set_option maxHeartbeats 4000000 in
theorem put_newi {w : World} {b m : Nat} {A : List Az} {tv : Value} {T : List Ev} (h : Sb w b m A tv T 0) (hT : T.length ≤ 1600000000000) {job bdg idx : Int} {t : ByteArray} (h1 : 1 ≤ job) (h2 : job ≤ 8) (h3 : ¬ 32 < t.size) (h4 : idx ≠ 0) (h7 : 1 ≤ bdg) (h8 : bdg ≤ 1099511627776) (h9 : ¬ bdg < (fnd job A).bdg) (h10 : ¬ idx < 0) (h11 : ¬ 16 < idx) (h12 : ¬ cntA A job bdg < idx) (h13 : ¬ idx < cntA A job bdg) :
    Calls Try.prog 7 #[.pointer (some ⟨b, 0, none⟩), .int .i64 job, .int .i64 bdg, .int .i64 idx, .string t] w (PuP b m A tv T job bdg idx t w) := by
  have H := hide h
  have HT := hide hT
  have HC := hide (count_any h job bdg)
  obtain ⟨cn0, cn1⟩ := cntA_le h job bdg
  obtain ⟨fb0, fb1⟩ := fnd_bd h job
  have c0 : ∀ w1, Below w.heap.size w w1 → w1.cell? ⟨b, 0, none⟩ = some (.map (some m)) := fun w1 hb => (h.below hb).c0
  have hlk : ∀ w1, Below w.heap.size w w1 → (Instr.lookup 44 (.map (some m)) (.int .i64 job) false).run Try.prog w1 = .ok (fnd job A).val w1 := fun w1 hb => (h.map.below hb).look1 job
  have hf1 := field1
  have hu := hide (And.intro True.intro (And.intro h1 (And.intro h2 (And.intro h3 (And.intro h4 (And.intro h7 (And.intro h8 (And.intro h9 (And.intro h10 (And.intro h11 (And.intro h12 h13)))))))))))
  clear hu
  have d1 : decide (job < 1) = false := by simp; omega
  have d2 : decide (8 < job) = false := by simp; omega
  have d3 : decide (32 < t.size) = false := by simp; omega
  have d4 : (idx == 0) = false := by simp; omega
  have d7 : decide (bdg < 1) = false := by simp; omega
  have d8 : decide (1099511627776 < bdg) = false := by simp; omega
  have d9 : decide (bdg < (fnd job A).bdg) = false := by simp; omega
  have d10 : decide (idx < 0) = false := by simp; omega
  have d11 : decide (16 < idx) = false := by simp; omega
  have d12 : decide (cntA A job bdg < idx) = false := by simp; omega
  have d13 : decide (idx < cntA A job bdg) = false := by simp; omega
  have HE : Hid (pE A job bdg idx t = 0) := hide (by unfold pE; rw [if_neg (by omega), if_neg (by omega), if_neg (by omega), if_neg (by omega)])
  have hx : has job A = true ∧ (fnd job A).bdg = bdg ∧ cntA A job bdg = (fnd job A).pcs.length + 1 := by
    unfold cntA at h12 h13 ⊢
    split
    · rename_i hh; exact ⟨hh.1, hh.2, rfl⟩
    · rename_i hh; rw [if_neg hh] at h12 h13; omega
  have HA : Hid (∀ w1, Below w.heap.size w w1 → Calls Try.prog 13 #[.pointer (some ⟨b, 0, none⟩), .int .i64 job, .int .i64 bdg, .int .i64 idx, .string t] w1 fun e w' => e = .returned (.tuple #[]) ∧ AdP b m A tv T job bdg idx t ((fnd job A).pcs ++ [t]) w1 w') := hide fun w1 hb => admit_more (H.out.below hb) ⟨h7, h8⟩ hx.1 (by omega) (by omega) HT.out _
  clear hx
  clear h hT
  generalize hcn : cntA A job bdg = cn at *
  generalize hfn : fnd job A = x at *
  obtain ⟨xj, xb, ad0, cap0, pcs⟩ := x
  simp only at *
  dsimp only [Az.val] at hlk
  go_enter Try.func7, Try.ntmps7
  go_wp2_with fail
  refine HC.out.mono ?_
  rintro e w1 ⟨rfl, hb1⟩
  have HB1 := hide hb1
  have k0 := c0 w1 hb1
  have kl := hlk w1 hb1
  clear c0 hlk hb1
  go_wp2_with fail
  refine (HA.out w1 HB1.out).mono ?_
  rintro e w2 ⟨rfl, ha⟩
  have HAD := hide (AdP.pre HB1.out ha)
  clear ha
  go_wp2_with fail
  go_ret3
  refine .inr (.inr ⟨HE.out, by omega, by rw [hcn]; rfl, ?_⟩)
  rw [if_neg h4, hfn]
  exact HAD.out

set_option maxHeartbeats 4000000 in
theorem put_bdg1z {w : World} {b m : Nat} {A : List Az} {tv : Value} {T : List Ev} (h : Sb w b m A tv T 0) (hT : T.length ≤ 1600000000000) {job bdg idx : Int} {t : ByteArray} (h1 : 1 ≤ job) (h2 : job ≤ 8) (h3 : ¬ 32 < t.size) (h4 : idx = 0) (h5 : t.size = 0) (h7 : bdg < 1) :
    Calls Try.prog 7 #[.pointer (some ⟨b, 0, none⟩), .int .i64 job, .int .i64 bdg, .int .i64 idx, .string t] w (PuP b m A tv T job bdg idx t w) := by
  have H := hide h
  have HT := hide hT
  have HC := hide (count_any h job bdg)
  obtain ⟨cn0, cn1⟩ := cntA_le h job bdg
  obtain ⟨fb0, fb1⟩ := fnd_bd h job
  have c0 : ∀ w1, Below w.heap.size w w1 → w1.cell? ⟨b, 0, none⟩ = some (.map (some m)) := fun w1 hb => (h.below hb).c0
  have hlk : ∀ w1, Below w.heap.size w w1 → (Instr.lookup 44 (.map (some m)) (.int .i64 job) false).run Try.prog w1 = .ok (fnd job A).val w1 := fun w1 hb => (h.map.below hb).look1 job
  have hf1 := field1
  have hu := hide (And.intro True.intro (And.intro h1 (And.intro h2 (And.intro h3 (And.intro h4 (And.intro h5 h7))))))
  clear hu
  have d1 : decide (job < 1) = false := by simp; omega
  have d2 : decide (8 < job) = false := by simp; omega
  have d3 : decide (32 < t.size) = false := by simp; omega
  have h6 := size_nil h5
  subst h4
  subst h6
  have d7 : decide (bdg < 1) = true := by simp; omega
  have HE : Hid (pE A job bdg 0 ⟨#[]⟩ = 161) := hide (by unfold pE; rw [if_neg (by omega), if_neg (by omega), if_pos (by omega)])
  clear h hT
  generalize hcn : cntA A job bdg = cn at *
  generalize hfn : fnd job A = x at *
  obtain ⟨xj, xb, ad0, cap0, pcs⟩ := x
  simp only at *
  dsimp only [Az.val] at hlk
  go_enter Try.func7, Try.ntmps7
  go_wp2_with fail
  refine HC.out.mono ?_
  rintro e w1 ⟨rfl, hb1⟩
  have HB1 := hide hb1
  have k0 := c0 w1 hb1
  have kl := hlk w1 hb1
  clear c0 hlk hb1
  go_wp2_with fail
  go_ret3
  refine .inl ⟨?_, ?_, HB1.out⟩
  · rw [HE.out]; decide
  · rw [HE.out]; rfl

set_option maxHeartbeats 4000000 in
theorem put_bdg2z {w : World} {b m : Nat} {A : List Az} {tv : Value} {T : List Ev} (h : Sb w b m A tv T 0) (hT : T.length ≤ 1600000000000) {job bdg idx : Int} {t : ByteArray} (h1 : 1 ≤ job) (h2 : job ≤ 8) (h3 : ¬ 32 < t.size) (h4 : idx = 0) (h5 : t.size = 0) (h7 : ¬ bdg < 1) (h8 : 1099511627776 < bdg) :
    Calls Try.prog 7 #[.pointer (some ⟨b, 0, none⟩), .int .i64 job, .int .i64 bdg, .int .i64 idx, .string t] w (PuP b m A tv T job bdg idx t w) := by
  have H := hide h
  have HT := hide hT
  have HC := hide (count_any h job bdg)
  obtain ⟨cn0, cn1⟩ := cntA_le h job bdg
  obtain ⟨fb0, fb1⟩ := fnd_bd h job
  have c0 : ∀ w1, Below w.heap.size w w1 → w1.cell? ⟨b, 0, none⟩ = some (.map (some m)) := fun w1 hb => (h.below hb).c0
  have hlk : ∀ w1, Below w.heap.size w w1 → (Instr.lookup 44 (.map (some m)) (.int .i64 job) false).run Try.prog w1 = .ok (fnd job A).val w1 := fun w1 hb => (h.map.below hb).look1 job
  have hf1 := field1
  have hu := hide (And.intro True.intro (And.intro h1 (And.intro h2 (And.intro h3 (And.intro h4 (And.intro h5 (And.intro h7 h8)))))))
  clear hu
  have d1 : decide (job < 1) = false := by simp; omega
  have d2 : decide (8 < job) = false := by simp; omega
  have d3 : decide (32 < t.size) = false := by simp; omega
  have h6 := size_nil h5
  subst h4
  subst h6
  have d7 : decide (bdg < 1) = false := by simp; omega
  have d8 : decide (1099511627776 < bdg) = true := by simp; omega
  have HE : Hid (pE A job bdg 0 ⟨#[]⟩ = 161) := hide (by unfold pE; rw [if_neg (by omega), if_neg (by omega), if_pos (by omega)])
  clear h hT
  generalize hcn : cntA A job bdg = cn at *
  generalize hfn : fnd job A = x at *
  obtain ⟨xj, xb, ad0, cap0, pcs⟩ := x
  simp only at *
  dsimp only [Az.val] at hlk
  go_enter Try.func7, Try.ntmps7
  go_wp2_with fail
  refine HC.out.mono ?_
  rintro e w1 ⟨rfl, hb1⟩
  have HB1 := hide hb1
  have k0 := c0 w1 hb1
  have kl := hlk w1 hb1
  clear c0 hlk hb1
  go_wp2_with fail
  go_ret3
  refine .inl ⟨?_, ?_, HB1.out⟩
  · rw [HE.out]; decide
  · rw [HE.out]; rfl

set_option maxHeartbeats 4000000 in
theorem put_bdg3z {w : World} {b m : Nat} {A : List Az} {tv : Value} {T : List Ev} (h : Sb w b m A tv T 0) (hT : T.length ≤ 1600000000000) {job bdg idx : Int} {t : ByteArray} (h1 : 1 ≤ job) (h2 : job ≤ 8) (h3 : ¬ 32 < t.size) (h4 : idx = 0) (h5 : t.size = 0) (h7 : 1 ≤ bdg) (h8 : bdg ≤ 1099511627776) (h9 : bdg < (fnd job A).bdg) :
    Calls Try.prog 7 #[.pointer (some ⟨b, 0, none⟩), .int .i64 job, .int .i64 bdg, .int .i64 idx, .string t] w (PuP b m A tv T job bdg idx t w) := by
  have H := hide h
  have HT := hide hT
  have HC := hide (count_any h job bdg)
  obtain ⟨cn0, cn1⟩ := cntA_le h job bdg
  obtain ⟨fb0, fb1⟩ := fnd_bd h job
  have c0 : ∀ w1, Below w.heap.size w w1 → w1.cell? ⟨b, 0, none⟩ = some (.map (some m)) := fun w1 hb => (h.below hb).c0
  have hlk : ∀ w1, Below w.heap.size w w1 → (Instr.lookup 44 (.map (some m)) (.int .i64 job) false).run Try.prog w1 = .ok (fnd job A).val w1 := fun w1 hb => (h.map.below hb).look1 job
  have hf1 := field1
  have hu := hide (And.intro True.intro (And.intro h1 (And.intro h2 (And.intro h3 (And.intro h4 (And.intro h5 (And.intro h7 (And.intro h8 h9))))))))
  clear hu
  have d1 : decide (job < 1) = false := by simp; omega
  have d2 : decide (8 < job) = false := by simp; omega
  have d3 : decide (32 < t.size) = false := by simp; omega
  have h6 := size_nil h5
  subst h4
  subst h6
  have d7 : decide (bdg < 1) = false := by simp; omega
  have d8 : decide (1099511627776 < bdg) = false := by simp; omega
  have d9 : decide (bdg < (fnd job A).bdg) = true := by simp; omega
  have HE : Hid (pE A job bdg 0 ⟨#[]⟩ = 161) := hide (by unfold pE; rw [if_neg (by omega), if_neg (by omega), if_pos (by omega)])
  clear h hT
  generalize hcn : cntA A job bdg = cn at *
  generalize hfn : fnd job A = x at *
  obtain ⟨xj, xb, ad0, cap0, pcs⟩ := x
  simp only at *
  dsimp only [Az.val] at hlk
  go_enter Try.func7, Try.ntmps7
  go_wp2_with fail
  refine HC.out.mono ?_
  rintro e w1 ⟨rfl, hb1⟩
  have HB1 := hide hb1
  have k0 := c0 w1 hb1
  have kl := hlk w1 hb1
  clear c0 hlk hb1
  go_wp2_with fail
  go_ret3
  refine .inl ⟨?_, ?_, HB1.out⟩
  · rw [HE.out]; decide
  · rw [HE.out]; rfl

set_option maxHeartbeats 4000000 in
theorem put_oldz {w : World} {b m : Nat} {A : List Az} {tv : Value} {T : List Ev} (h : Sb w b m A tv T 0) (hT : T.length ≤ 1600000000000) {job bdg idx : Int} {t : ByteArray} (h1 : 1 ≤ job) (h2 : job ≤ 8) (h3 : ¬ 32 < t.size) (h4 : idx = 0) (h5 : t.size = 0) (h7 : 1 ≤ bdg) (h8 : bdg ≤ 1099511627776) (h9 : ¬ bdg < (fnd job A).bdg) (h12 : ¬ cntA A job bdg < 0) (h13 : 0 < cntA A job bdg) :
    Calls Try.prog 7 #[.pointer (some ⟨b, 0, none⟩), .int .i64 job, .int .i64 bdg, .int .i64 idx, .string t] w (PuP b m A tv T job bdg idx t w) := by
  have H := hide h
  have HT := hide hT
  have HC := hide (count_any h job bdg)
  obtain ⟨cn0, cn1⟩ := cntA_le h job bdg
  obtain ⟨fb0, fb1⟩ := fnd_bd h job
  have c0 : ∀ w1, Below w.heap.size w w1 → w1.cell? ⟨b, 0, none⟩ = some (.map (some m)) := fun w1 hb => (h.below hb).c0
  have hlk : ∀ w1, Below w.heap.size w w1 → (Instr.lookup 44 (.map (some m)) (.int .i64 job) false).run Try.prog w1 = .ok (fnd job A).val w1 := fun w1 hb => (h.map.below hb).look1 job
  have hf1 := field1
  have hu := hide (And.intro True.intro (And.intro h1 (And.intro h2 (And.intro h3 (And.intro h4 (And.intro h5 (And.intro h7 (And.intro h8 (And.intro h9 (And.intro h12 h13))))))))))
  clear hu
  have d1 : decide (job < 1) = false := by simp; omega
  have d2 : decide (8 < job) = false := by simp; omega
  have d3 : decide (32 < t.size) = false := by simp; omega
  have h6 := size_nil h5
  subst h4
  subst h6
  have d7 : decide (bdg < 1) = false := by simp; omega
  have d8 : decide (1099511627776 < bdg) = false := by simp; omega
  have d9 : decide (bdg < (fnd job A).bdg) = false := by simp; omega
  have d12 : decide (cntA A job bdg < 0) = false := by simp; omega
  have d13 : decide (0 < cntA A job bdg) = true := by simp; omega
  have HE : Hid (pE A job bdg 0 ⟨#[]⟩ = 0) := hide (by unfold pE; rw [if_neg (by omega), if_neg (by omega), if_neg (by omega), if_neg (by omega)])
  clear h hT
  generalize hcn : cntA A job bdg = cn at *
  generalize hfn : fnd job A = x at *
  obtain ⟨xj, xb, ad0, cap0, pcs⟩ := x
  simp only at *
  dsimp only [Az.val] at hlk
  go_enter Try.func7, Try.ntmps7
  go_wp2_with fail
  refine HC.out.mono ?_
  rintro e w1 ⟨rfl, hb1⟩
  have HB1 := hide hb1
  have k0 := c0 w1 hb1
  have kl := hlk w1 hb1
  clear c0 hlk hb1
  go_wp2_with fail
  go_ret3
  exact .inr (.inl ⟨HE.out, by rw [hcn]; exact h13, by rw [hcn]; rfl, HB1.out⟩)

set_option maxHeartbeats 4000000 in
theorem put_newz {w : World} {b m : Nat} {A : List Az} {tv : Value} {T : List Ev} (h : Sb w b m A tv T 0) (hT : T.length ≤ 1600000000000) {job bdg idx : Int} {t : ByteArray} (h1 : 1 ≤ job) (h2 : job ≤ 8) (h3 : ¬ 32 < t.size) (h4 : idx = 0) (h5 : t.size = 0) (h7 : 1 ≤ bdg) (h8 : bdg ≤ 1099511627776) (h9 : ¬ bdg < (fnd job A).bdg) (h12 : ¬ cntA A job bdg < 0) (h13 : ¬ 0 < cntA A job bdg) :
    Calls Try.prog 7 #[.pointer (some ⟨b, 0, none⟩), .int .i64 job, .int .i64 bdg, .int .i64 idx, .string t] w (PuP b m A tv T job bdg idx t w) := by
  have H := hide h
  have HT := hide hT
  have HC := hide (count_any h job bdg)
  obtain ⟨cn0, cn1⟩ := cntA_le h job bdg
  obtain ⟨fb0, fb1⟩ := fnd_bd h job
  have c0 : ∀ w1, Below w.heap.size w w1 → w1.cell? ⟨b, 0, none⟩ = some (.map (some m)) := fun w1 hb => (h.below hb).c0
  have hlk : ∀ w1, Below w.heap.size w w1 → (Instr.lookup 44 (.map (some m)) (.int .i64 job) false).run Try.prog w1 = .ok (fnd job A).val w1 := fun w1 hb => (h.map.below hb).look1 job
  have hf1 := field1
  have hu := hide (And.intro True.intro (And.intro h1 (And.intro h2 (And.intro h3 (And.intro h4 (And.intro h5 (And.intro h7 (And.intro h8 (And.intro h9 (And.intro h12 h13))))))))))
  clear hu
  have d1 : decide (job < 1) = false := by simp; omega
  have d2 : decide (8 < job) = false := by simp; omega
  have d3 : decide (32 < t.size) = false := by simp; omega
  have h6 := size_nil h5
  subst h4
  subst h6
  have d7 : decide (bdg < 1) = false := by simp; omega
  have d8 : decide (1099511627776 < bdg) = false := by simp; omega
  have d9 : decide (bdg < (fnd job A).bdg) = false := by simp; omega
  have d12 : decide (cntA A job bdg < 0) = false := by simp; omega
  have d13 : decide (0 < cntA A job bdg) = false := by simp; omega
  have HE : Hid (pE A job bdg 0 ⟨#[]⟩ = 0) := hide (by unfold pE; rw [if_neg (by omega), if_neg (by omega), if_neg (by omega), if_neg (by omega)])
  have HA : Hid (∀ w1, Below w.heap.size w w1 → Calls Try.prog 13 #[.pointer (some ⟨b, 0, none⟩), .int .i64 job, .int .i64 bdg, .int .i64 0, .string ⟨#[]⟩] w1 fun e w' => e = .returned (.tuple #[]) ∧ AdP b m A tv T job bdg 0 ⟨#[]⟩ [] w1 w') := hide fun w1 hb => admit_zero (H.out.below hb) ⟨h1, h2⟩ ⟨h7, h8⟩ HT.out _
  clear h hT
  generalize hcn : cntA A job bdg = cn at *
  generalize hfn : fnd job A = x at *
  obtain ⟨xj, xb, ad0, cap0, pcs⟩ := x
  simp only at *
  dsimp only [Az.val] at hlk
  go_enter Try.func7, Try.ntmps7
  go_wp2_with fail
  refine HC.out.mono ?_
  rintro e w1 ⟨rfl, hb1⟩
  have HB1 := hide hb1
  have k0 := c0 w1 hb1
  have kl := hlk w1 hb1
  clear c0 hlk hb1
  go_wp2_with fail
  refine (HA.out w1 HB1.out).mono ?_
  rintro e w2 ⟨rfl, ha⟩
  have HAD := hide (AdP.pre HB1.out ha)
  clear ha
  go_wp2_with fail
  go_ret3
  refine .inr (.inr ⟨HE.out, by omega, by rw [hcn]; rfl, ?_⟩)
  rw [if_pos rfl]
  exact HAD.out

end Go.Proofs.Ytfmanndadjdpbaa.K
end
