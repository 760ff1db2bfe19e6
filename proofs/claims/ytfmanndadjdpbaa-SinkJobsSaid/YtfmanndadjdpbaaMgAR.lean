import Derived.Test.YtfmanndadjdpbaaMgAQ

section
namespace Go.Proofs.Ytfmanndadjdpbaa.K
open Go.RowKit Go.MapKept
set_option maxRecDepth 8000

/-- Put, whatever comes -/
theorem put_any {w : World} {b m : Nat} {A : List Az} {tv : Value} {T : List Ev} (h : Sb w b m A tv T 0) (hT : T.length ≤ 1600000000000) (job bdg idx : Int) (t : ByteArray) :
    Calls Try.prog 7 #[.pointer (some ⟨b, 0, none⟩), .int .i64 job, .int .i64 bdg, .int .i64 idx, .string t] w (PuP b m A tv T job bdg idx t w) := by
  by_cases h1 : job < 1
  · exact put_job1 h hT h1
  by_cases h2 : 8 < job
  · exact put_job8 h hT h1 h2
  have h1' : 1 ≤ job := by omega
  have h2' : job ≤ 8 := by omega
  by_cases h3 : 32 < t.size
  · exact put_long h hT h1' h2' h3
  by_cases h4 : idx = 0
  · by_cases h5 : t.size = 0
    · by_cases h7 : bdg < 1
      · exact put_bdg1z h hT h1' h2' h3 h4 h5 h7
      have h7' : 1 ≤ bdg := by omega
      by_cases h8 : 1099511627776 < bdg
      · exact put_bdg2z h hT h1' h2' h3 h4 h5 h7 h8
      have h8' : bdg ≤ 1099511627776 := by omega
      by_cases h9 : bdg < (fnd job A).bdg
      · exact put_bdg3z h hT h1' h2' h3 h4 h5 h7' h8' h9
      have h12 : ¬ cntA A job bdg < 0 := by have := cntA_le h job bdg; omega
      by_cases h13 : 0 < cntA A job bdg
      · exact put_oldz h hT h1' h2' h3 h4 h5 h7' h8' h9 h12 h13
      · exact put_newz h hT h1' h2' h3 h4 h5 h7' h8' h9 h12 h13
    · exact put_claim h hT h1' h2' h3 h4 h5
  · by_cases h7 : bdg < 1
    · exact put_bdg1i h hT h1' h2' h3 h4 h7
    have h7' : 1 ≤ bdg := by omega
    by_cases h8 : 1099511627776 < bdg
    · exact put_bdg2i h hT h1' h2' h3 h4 h7 h8
    have h8' : bdg ≤ 1099511627776 := by omega
    by_cases h9 : bdg < (fnd job A).bdg
    · exact put_bdg3i h hT h1' h2' h3 h4 h7' h8' h9
    by_cases h10 : idx < 0
    · exact put_plc1i h hT h1' h2' h3 h4 h7' h8' h9 h10
    by_cases h11 : 16 < idx
    · exact put_plc2i h hT h1' h2' h3 h4 h7' h8' h9 h10 h11
    by_cases h12 : cntA A job bdg < idx
    · exact put_plc3i h hT h1' h2' h3 h4 h7' h8' h9 h10 h11 h12
    by_cases h13 : idx < cntA A job bdg
    · exact put_oldi h hT h1' h2' h3 h4 h7' h8' h9 h10 h11 h12 h13
    · exact put_newi h hT h1' h2' h3 h4 h7' h8' h9 h10 h11 h12 h13

/-- a sink: of each job its badge (0: none) and its pieces -/
abbrev St := Int → Int × List ByteArray
def stA (A : List Az) : St := fun j => ((fnd j A).bdg, (fnd j A).pcs)
def st0 : St := fun _ => (0, [])
def cnt (s : St) (job bdg : Int) : Int := if 1 ≤ (s job).1 ∧ (s job).1 = bdg then (s job).2.length + 1 else 0
def pe (s : St) (job bdg idx : Int) (t : ByteArray) : Int :=
  if job < 1 ∨ 8 < job then 160 else if 32 < t.size ∨ (idx = 0 ∧ t.size ≠ 0) then 163 else if bdg < 1 ∨ 1099511627776 < bdg ∨ bdg < (s job).1 then 161 else if idx < 0 ∨ 16 < idx ∨ cnt s job bdg < idx then 162 else 0
/-- is it admitted? -/
def adm (s : St) (job bdg idx : Int) (t : ByteArray) : Bool := decide (pe s job bdg idx t = 0 ∧ idx = cnt s job bdg)
def nxt (s : St) (job bdg idx : Int) (t : ByteArray) : St := if adm s job bdg idx t = true then fun j => if j = job then (bdg, if idx = 0 then [] else (s job).2 ++ [t]) else s j else s
def news (s : St) (job bdg idx : Int) (t : ByteArray) : List Ev := if adm s job bdg idx t = true then [⟨job, bdg, idx, t⟩] else []
def ans (s : St) (job bdg idx : Int) (t : ByteArray) : Int := if pe s job bdg idx t ≠ 0 then 0 else if adm s job bdg idx t = true then cnt s job bdg + 1 else cnt s job bdg

theorem has_bdg {w : World} {b m : Nat} {A : List Az} {tv : Value} {T : List Ev} {j : Int} (h : Sb w b m A tv T j) (job : Int) : has job A = true ↔ 1 ≤ (fnd job A).bdg := by
  cases hh : has job A with
  | true => have := h.ok _ (fnd_mem hh).1; simp; omega
  | false => rw [fnd_none hh]; simp [az0]
theorem cntA_eq {w : World} {b m : Nat} {A : List Az} {tv : Value} {T : List Ev} {j : Int} (h : Sb w b m A tv T j) (job bdg : Int) : cntA A job bdg = cnt (stA A) job bdg := by
  unfold cntA cnt stA
  simp only [has_bdg h]
theorem pE_eq {w : World} {b m : Nat} {A : List Az} {tv : Value} {T : List Ev} {j : Int} (h : Sb w b m A tv T j) (job bdg idx : Int) (t : ByteArray) : pE A job bdg idx t = pe (stA A) job bdg idx t := by
  unfold pE pe
  rw [cntA_eq h]
  rfl
theorem fnd_put {A : List Az} (hR : Rise A) (x : Az) (j : Int) : fnd j (put x A) = if j = x.job then x else fnd j A := by
  by_cases e : j = x.job
  · rw [if_pos e, e]
    exact fnd_at (put_rise hR x) (mem_put.2 (.inl rfl))
  · rw [if_neg e]
    cases hh : has j A with
    | true =>
      obtain ⟨h1, h2⟩ := fnd_mem hh
      have h3 := fnd_at (put_rise hR x) (mem_put.2 (.inr ⟨h1, by rw [h2]; exact e⟩))
      rw [h2] at h3
      exact h3
    | false =>
      rw [fnd_none hh]
      refine fnd_none (has_false.2 fun y hy => ?_)
      rcases mem_put.1 hy with rfl | ⟨hy, _⟩
      · exact Ne.symm e
      · exact has_false.1 hh y hy
/-- a sink in memory; F: its blocks -/
def Sk (w : World) (b : Nat) (s : St) (T : List Ev) (F : Nat → Prop) : Prop := ∃ m A tv, Sb w b m A tv T 0 ∧ s = stA A ∧ F = Ft b m A tv 0
/-- behind a call -/
def Gp (F : Nat → Prop) (b : Nat) (s : St) (T : List Ev) (w w' : World) : Prop := ∃ F', Sk w' b s T F' ∧ Mv F w w' ∧ ∀ k, F' k → F k ∨ w.heap.size ≤ k
section
variable {w w' w1 : World} {b : Nat} {s : St} {T : List Ev} {F : Nat → Prop}
theorem Sk.lt (h : Sk w b s T F) : ∀ k, F k → k < w.heap.size := by
  obtain ⟨m, A, tv, h, _, rfl⟩ := h
  exact h.lt
theorem Sk.keep (h : Sk w b s T F) (hk : ∀ k, F k → w'.heap[k]? = w.heap[k]?) : Sk w' b s T F := by
  obtain ⟨m, A, tv, h, h2, rfl⟩ := h
  exact ⟨m, A, tv, h.keep hk, h2, rfl⟩
theorem Sk.below (h : Sk w b s T F) (hb : Below w.heap.size w w') : Sk w' b s T F := h.keep fun k hk => hb.block k (h.lt k hk)
theorem Sk.gp (h : Sk w b s T F) (hb : Below w.heap.size w w') : Gp F b s T w w' := ⟨F, h.below hb, Mv.of_below hb, fun _ h => .inl h⟩
theorem Gp.trans {s1 s2 : St} {T1 T2 : List Ev} (h : Gp F b s1 T1 w w1) (k : ∀ G, Sk w1 b s1 T1 G → Gp G b s2 T2 w1 w') : Gp F b s2 T2 w w' := by
  obtain ⟨G, h1, h2, h3⟩ := h
  obtain ⟨G', k1, k2, k3⟩ := k G h1
  refine ⟨G', k1, h2.trans k2 h3, fun i hi => ?_⟩
  rcases k3 i hi with h | h
  · exact h3 i h
  · exact .inr (Nat.le_trans h2.size h)
theorem Gp.below (h : Gp F b s T w w1) (hb : Below w1.heap.size w1 w') : Gp F b s T w w' := h.trans fun _ hG => hG.gp hb
theorem Gp.pre (hb : Below w.heap.size w w1) (h : Gp F b s T w1 w') : Gp F b s T w w' := by
  obtain ⟨G, h1, h2, h3⟩ := h
  refine ⟨G, h1, (Mv.of_below hb).trans h2 (fun _ h => .inl h), fun k hk => ?_⟩
  rcases h3 k hk with h | h
  · exact .inl h
  · exact .inr (Nat.le_trans hb.size h)
/-- Put -/
theorem Sk.put (h : Sk w b s T F) (hT : T.length ≤ 1600000000000) (job bdg idx : Int) (t : ByteArray) :
    Calls Try.prog 7 #[.pointer (some ⟨b, 0, none⟩), .int .i64 job, .int .i64 bdg, .int .i64 idx, .string t] w fun e w' =>
      e = .returned (.tuple #[.int .i64 (ans s job bdg idx t), .bool (adm s job bdg idx t), .int .i64 (pe s job bdg idx t)]) ∧ Gp F b (nxt s job bdg idx t) (T ++ news s job bdg idx t) w w' := by
  have h0 := h
  obtain ⟨m, A, tv, h, rfl, rfl⟩ := h
  refine (put_any h hT job bdg idx t).mono ?_
  have e1 := pE_eq h job bdg idx t
  have e2 := cntA_eq h job bdg
  intro e w' hp
  unfold PuP at hp
  rw [e1, e2] at hp
  rcases hp with ⟨h1, h2, h3⟩ | ⟨h1, h2, h3, h4⟩ | ⟨h1, h2, h3, h4⟩
  · have ha : adm (stA A) job bdg idx t = false := by unfold adm; simp [h1]
    unfold ans news nxt
    rw [ha, if_pos h1, if_neg (by decide), if_neg (by decide), List.append_nil]
    exact ⟨h2, h0.gp h3⟩
  · have ha : adm (stA A) job bdg idx t = false := by unfold adm; simp; intro _ ; omega
    unfold ans news nxt
    rw [ha, if_neg (by rw [h1]; decide), if_neg (by decide), if_neg (by decide), if_neg (by decide), List.append_nil, h1]
    exact ⟨h3, h0.gp h4⟩
  · have ha : adm (stA A) job bdg idx t = true := by unfold adm; simp [h1, ← h2]
    unfold ans news nxt
    rw [ha, if_neg (by rw [h1]; decide), if_pos rfl, if_pos rfl, if_pos rfl, h1]
    obtain ⟨x, tv', x1, x2, x3, hS, hM, hF⟩ := h4
    refine ⟨h3, _, ⟨m, K.put x A, tv', hS, ?_, rfl⟩, hM, hF⟩
    funext j
    unfold stA
    rw [fnd_put h.map.1, x1]
    by_cases e : j = job
    · rw [if_pos e, if_pos e, x2, x3]
    · rw [if_neg e, if_neg e]
/-- count -/
theorem Sk.count (h : Sk w b s T F) (job bdg : Int) :
    Calls Try.prog 12 #[.pointer (some ⟨b, 0, none⟩), .int .i64 job, .int .i64 bdg] w fun e w' => e = .returned (.int .i64 (cnt s job bdg)) ∧ Below w.heap.size w w' := by
  obtain ⟨m, A, tv, h, rfl, rfl⟩ := h
  rw [← cntA_eq h]
  exact count_any h job bdg
/-- Told -/
theorem Sk.told (h : Sk w b s T F) :
    Calls Try.prog 9 #[.pointer (some ⟨b, 0, none⟩)] w fun e w' => ∃ tv F', e = .returned tv ∧ w'.ownsRow 0 69 13 tv T.length (ecs T) ∧ Sk w' b s [] F' ∧ Mv F w w' ∧ w'.heap.size = w.heap.size ∧ (∀ k, F' k → F k) ∧ (∀ k, tv.ownBlock = some k → F k ∧ ¬ F' k) := by
  obtain ⟨m, A, tv, h, rfl, rfl⟩ := h
  refine (told_any h).mono ?_
  rintro e w' ⟨rfl, rfl⟩
  have hset : ∀ k, k ≠ b → (w.setCell ⟨b, 1, none⟩ (.slice none 0 0)).heap[k]? = w.heap[k]? := fun k hk => by simp [World.setCell, Array.getElem?_modify, Ne.symm hk]
  have hbt : ∀ k, tv.ownBlock = some k → k ≠ b ∧ k ≠ m := fun k e => h.row_ne h.told (by decide) k e
  have hbx : ∀ x ∈ A, x.job ≠ 0 → ∀ k, x.sl.ownBlock = some k → k ≠ b := fun x hx h0 k e => (h.row_ne (h.pcs x hx h0) (by decide) k e).1
  refine ⟨tv, _, rfl, own_keep h.told fun k e => hset k (hbt k e).1, ⟨m, A, .slice none 0 0, ⟨?_, h.map.keep (hset m (Ne.symm h.bm)), World.ownsRow_nil _ _ _ _, fun x hx h0 => own_keep (h.pcs x hx h0) fun k e => hset k (hbx x hx h0 k e), h.apart, h.ok⟩, rfl, rfl⟩, Mv.of_grown (grown_set w b 1 _) (fun k e => by cases e; exact .inl (.inl rfl)), by simp [World.setCell], fun k hk => ?_, fun k hk => ⟨.inr (.inr (.inl hk)), fun hf => ?_⟩⟩
  · have := h.blk
    simp only [World.setCell, Array.getElem?_modify]
    rw [this]
    simp
  · rcases hk with h1 | h1 | h1 | h1
    · exact .inl h1
    · exact .inr (.inl h1)
    · cases h1
    · exact .inr (.inr (.inr h1))
  · rcases hf with h1 | h1 | h1 | ⟨x, hx, h0, h1⟩
    · exact (hbt k hk).1 h1
    · exact (hbt k hk).2 h1
    · cases h1
    · exact own_apart (h.pcs x hx h0) h.told (by decide) k h1 hk
/-- New -/
theorem new_st (w : World) : Calls Try.prog 5 #[] w fun e w' => ∃ b F, e = .returned (.pointer (some ⟨b, 0, none⟩)) ∧ Sk w' b st0 [] F ∧ Below w.heap.size w w' ∧ (∀ k, F k → w.heap.size ≤ k) := by
  refine (new_any w).mono ?_
  rintro e w' ⟨rfl, h, hb⟩
  refine ⟨_, _, rfl, ⟨_, _, _, h, rfl, rfl⟩, hb, fun k hk => ?_⟩
  rcases hk with h1 | h1 | h1 | ⟨x, hx, _⟩
  · omega
  · omega
  · cases h1
  · cases hx
end
end Go.Proofs.Ytfmanndadjdpbaa.K
end
