import Derived.Test.YtjfgmdiafhkbgaaAuBd
namespace Go.Proofs.Ytjfgmdiafhkbgaa
open Go.RowKit Go.MapKept
set_option maxRecDepth 8000

/-- an event that says nothing of jobs -/
def mute (x : Ev) : Prop := x.k = 1 ∨ x.k = 3 ∨ (x.k = 4 ∧ ¬ (x.wn = 0 ∧ x.wl = 0))
theorem sh_stp (h : Hs) {e : Ev} (h4 : e.k ≠ 4) (h14 : e.k ≠ 14) : (stp h e).sh = false := by
  unfold stp pre bhdA
  rw [if_neg h14, if_neg h4]
  simp [apply_ite Hs.sh, lt_, h14]
theorem mute_stp {h : Hs} (hs : h.sh = false) {x : Ev} (hm : mute x) : stp h x = h ∧ stR h x = ru0 := by
  have e1 : pre h x = h := by
    unfold pre
    split
    · rfl
    · obtain ⟨a, b, c, d, e, f, g, s, u⟩ := h
      dsimp only at hs
      subst hs
      rfl
  have em : msg h = false := by unfold msg; rw [hs]; rfl
  unfold stp stR
  rw [e1, em]
  rcases hm with h1 | h1 | ⟨h1, h2⟩
  · unfold bhdA brkA
    simp [h1, ru0]
  · unfold bhdA brkA
    simp [h1, ru0]
  · unfold bhdA brkA
    simp [h1, ru0, h2]
theorem mute_ok {x : Ev} (hm : mute x) : okE x = true := by
  unfold okE
  rcases hm with h | h | ⟨h, _⟩ <;> rw [h] <;> rfl
/-- one more put in -/
def ins (l : List Ev) (n : Nat) (x : Ev) : List Ev := l.take n ++ x :: l.drop n
theorem ins_len (l : List Ev) {n : Nat} (hn : n ≤ l.length) (x : Ev) : (ins l n x).length = l.length + 1 := by
  unfold ins
  rw [List.length_append, List.length_cons, List.length_take, List.length_drop]; omega
theorem ins_lt (l : List Ev) {n : Nat} (hn : n ≤ l.length) (x : Ev) {j : Nat} (hj : j < n) : (ins l n x)[j]! = l[j]! := by
  have h1 := ins_len l hn x
  rw [getElem!_pos _ j (by omega), getElem!_pos l j (by omega)]
  unfold ins
  rw [List.getElem_append_left (by rw [List.length_take]; omega), List.getElem_take]
theorem ins_eq (l : List Ev) {n : Nat} (hn : n ≤ l.length) (x : Ev) : (ins l n x)[n]! = x := by
  have h1 := ins_len l hn x
  have ht : (l.take n).length = n := by rw [List.length_take]; omega
  rw [getElem!_pos _ n (by omega)]
  unfold ins
  rw [List.getElem_append_right (by omega)]
  simp [ht]
theorem ins_gt (l : List Ev) {n : Nat} (hn : n ≤ l.length) (x : Ev) {j : Nat} (hj : n ≤ j) (hl : j < l.length) : (ins l n x)[j + 1]! = l[j]! := by
  have h1 := ins_len l hn x
  have ht : (l.take n).length = n := by rw [List.length_take]; omega
  rw [getElem!_pos _ (j + 1) (by omega), getElem!_pos l j hl]
  unfold ins
  rw [List.getElem_append_right (by omega)]
  have e : j + 1 - (l.take n).length = (j - n) + 1 := by rw [ht]; omega
  simp only [e, List.getElem_cons_succ, List.getElem_drop]
  congr 1
  omega
theorem hN_ins1 (l : List Ev) {n : Nat} (hn : n ≤ l.length) (x : Ev) : ∀ i, i ≤ n → hN (ins l n x) i = hN l i
  | 0, _ => rfl
  | i + 1, hi => by
    show stp (hN (ins l n x) i) _ = stp (hN l i) _
    rw [hN_ins1 l hn x i (by omega), ins_lt l hn x (by omega)]
theorem allN_ins1 (l : List Ev) {n : Nat} (hn : n ≤ l.length) (x : Ev) : ∀ i, i ≤ n → allN (ins l n x) i = allN l i
  | 0, _ => rfl
  | i + 1, hi => by
    show allN (ins l n x) i ++ flts (stR (hN (ins l n x) i) _) i 9 = allN l i ++ flts (stR (hN l i) _) i 9
    rw [allN_ins1 l hn x i (by omega), hN_ins1 l hn x i (by omega), ins_lt l hn x (by omega)]
/-- where a fault is told behind the event put in -/
def shf (n : Nat) (x : Nat × Nat) : Nat × Nat := (x.1, if n ≤ x.2 then x.2 + 1 else x.2)
theorem flts_ru0 (i : Nat) : flts ru0 i 9 = [] := rfl
theorem map_shf {n : Nat} {l : List (Nat × Nat)} (h : ∀ x ∈ l, x.2 < n) : l.map (shf n) = l := by
  induction l with
  | nil => rfl
  | cons x l ih =>
    rw [List.map_cons, ih fun y hy => h y (List.mem_cons_of_mem _ hy)]
    have := h x (List.mem_cons_self)
    unfold shf
    rw [if_neg (by omega)]
theorem flts_shf (r : Ru) {n i : Nat} (hi : n ≤ i) : (flts r i 9).map (shf n) = flts r (i + 1) 9 := by
  unfold flts
  rw [List.map_map]
  congr 1
  funext j
  unfold shf
  simp only [Function.comp]
  rw [if_pos hi]
theorem ins_all (l : List Ev) {n : Nat} (hn : n ≤ l.length) {x : Ev} (hm : mute x) (hs : (hN l n).sh = false) : ∀ k, n + k ≤ l.length → hN (ins l n x) (n + k + 1) = hN l (n + k) ∧ allN (ins l n x) (n + k + 1) = (allN l (n + k)).map (shf n)
  | 0, _ => by
    have h1 := mute_stp hs hm
    refine ⟨?_, ?_⟩
    · show stp (hN (ins l n x) n) (ins l n x)[n]! = hN l n
      rw [hN_ins1 l hn x n (Nat.le_refl _), ins_eq l hn x, h1.1]
    · show allN (ins l n x) n ++ flts (stR (hN (ins l n x) n) (ins l n x)[n]!) n 9 = (allN l n).map (shf n)
      rw [hN_ins1 l hn x n (Nat.le_refl _), ins_eq l hn x, h1.2, flts_ru0, List.append_nil, allN_ins1 l hn x n (Nat.le_refl _), map_shf fun y hy => (allN_mem l hy).1]
  | k + 1, hk => by
    obtain ⟨h1, h2⟩ := ins_all l hn hm hs k (by omega)
    refine ⟨?_, ?_⟩
    · show stp (hN (ins l n x) (n + k + 1)) (ins l n x)[n + k + 1]! = stp (hN l (n + k)) l[n + k]!
      rw [h1, ins_gt l hn x (by omega) (by omega)]
    · show allN (ins l n x) (n + k + 1) ++ flts (stR (hN (ins l n x) (n + k + 1)) (ins l n x)[n + k + 1]!) (n + k + 1) 9 = (allN l (n + k) ++ flts (stR (hN l (n + k)) l[n + k]!) (n + k) 9).map (shf n)
      rw [h1, h2, ins_gt l hn x (by omega) (by omega), List.map_append, flts_shf _ (by omega)]
theorem sh_hN (l : List Ev) {n : Nat} (h : n = 0 ∨ ((l[n - 1]!).k ≠ 4 ∧ (l[n - 1]!).k ≠ 14)) : (hN l n).sh = false := by
  cases n with
  | zero => rfl
  | succ n =>
    rcases h with h | ⟨h1, h2⟩
    · cases h
    · exact sh_stp _ h1 h2
/-- what AuditPasses asks -/
theorem passes_pure {l : List Ev} (hE : allE l = 0) (h65 : l.length ≠ 65536) {n : Nat} (hn : n ≤ l.length) {x : Ev} (hm : mute x) (hb : n = 0 ∨ ((l[n - 1]!).k ≠ 4 ∧ (l[n - 1]!).k ≠ 14)) : allE (ins l n x) = 0 ∧ allL (ins l n x) = (allL l).map (shf n) := by
  obtain ⟨h1, h2⟩ := allE_zero hE
  have hl := ins_len l hn x
  have e : allE (ins l n x) = 0 := by
    unfold allE
    rw [if_neg (by omega), if_pos]
    rw [List.all_eq_true] at h2 ⊢
    intro y hy
    unfold ins at hy
    rcases List.mem_append.1 hy with hy | hy
    · exact h2 y (List.mem_of_mem_take hy)
    · rcases List.mem_cons.1 hy with rfl | hy
      · exact mute_ok hm
      · exact h2 y (List.mem_of_mem_drop hy)
  refine ⟨e, ?_⟩
  unfold allL
  rw [if_pos e, if_pos hE, hl]
  have := (ins_all l hn hm (sh_hN l hb) (l.length - n) (by omega)).2
  rwa [show n + (l.length - n) + 1 = l.length + 1 by omega, show n + (l.length - n) = l.length by omega] at this
/-- how the last event of a job that speaks of its standing leaves it -/
inductive Las (h : Hs) (i : Nat) : Int → Int → Prop
  | none : knw h i = false → Las h i 0 0
  | sub (b : Int) : isS h i 1 = true → Las h i 2 b
  | exp (b : Int) : isS h i 1 = true → Las h i 6 b
  | gra (b : Int) : isS h i 2 = true → (jat h i).ba = b → Las h i 5 b
  | los (b : Int) : isS h i 4 = true → Las h i 7 b
  | reco (b : Int) : isS h i 3 = true → Las h i 9 b
/-- the law's three, behind the first i -/
def lasN (l : List Ev) (jo : Int) : Nat → Int × Int × Int
  | 0 => (0, 0, 0)
  | i + 1 => (if (l[i]!).k = 5 then max (lasN l jo i).1 (l[i]!).ba else (lasN l jo i).1, if (l[i]!).jo = jo ∧ ((l[i]!).k = 2 ∨ (l[i]!).k = 5 ∨ (l[i]!).k = 6 ∨ (l[i]!).k = 7 ∨ (l[i]!).k = 9) then (l[i]!).k else (lasN l jo i).2.1, if (l[i]!).jo = jo ∧ ((l[i]!).k = 2 ∨ (l[i]!).k = 5 ∨ (l[i]!).k = 6 ∨ (l[i]!).k = 7 ∨ (l[i]!).k = 9) then (l[i]!).ba else (lasN l jo i).2.2)
theorem flts_nil {r : Ru} {i : Nat} (h : flts r i 9 = []) : ∀ j, j < 9 → r.at j = false := by
  intro j hj
  unfold flts at h
  rw [List.map_eq_nil_iff, List.filter_eq_nil_iff] at h
  have := h j (List.mem_range.2 hj)
  simpa using this
theorem flts_nil_of {r : Ru} {i : Nat} (h : ∀ j, j < 9 → r.at j = false) : flts r i 9 = [] := by
  unfold flts
  rw [List.map_eq_nil_iff, List.filter_eq_nil_iff]
  intro j hj
  simp [h j (List.mem_range.1 hj)]
theorem jat_set_ne {h : Hs} {i j : Nat} {y : Jb} (hij : i ≠ j) : jat { h with jobs := h.jobs.set i y } j = jat h j := by
  unfold jat
  show (h.jobs.set i y)[j]! = h.jobs[j]!
  by_cases hj : j < h.jobs.length
  · rw [getElem!_pos _ j (by simpa using hj), getElem!_pos _ j hj, List.getElem_set_ne hij]
  · rw [getElem!_neg _ j (by simpa using hj), getElem!_neg _ j hj]
theorem jat_set_eq {h : Hs} {i : Nat} {y : Jb} (hi : i < h.jobs.length) : jat { h with jobs := h.jobs.set i y } i = y := by
  unfold jat
  show (h.jobs.set i y)[i]! = y
  rw [getElem!_pos _ i (by simpa using hi)]
  simp
theorem Las.keep {h h' : Hs} {i : Nat} {a b : Int} (H : Las h i a b) (hk : knw h' i = knw h i) (hj : knw h i = true → (jat h' i).st = (jat h i).st ∧ (jat h' i).ba = (jat h i).ba) : Las h' i a b := by
  have hS : ∀ s, isS h i s = true → isS h' i s = true ∧ (jat h' i).ba = (jat h i).ba := fun s hs => by
    unfold isS at hs ⊢
    simp only [Bool.and_eq_true] at hs ⊢
    exact ⟨⟨by rw [hk]; exact hs.1, by rw [(hj hs.1).1]; exact hs.2⟩, (hj hs.1).2⟩
  cases H with
  | none h1 => exact .none (by rw [hk]; exact h1)
  | sub b h1 => exact .sub b (hS _ h1).1
  | exp b h1 => exact .exp b (hS _ h1).1
  | gra b h1 h2 => exact .gra b (hS _ h1).1 (by rw [(hS _ h1).2]; exact h2)
  | los b h1 => exact .los b (hS _ h1).1
  | reco b h1 => exact .reco b (hS _ h1).1
theorem las_jobs {h h' : Hs} (e : h'.jobs = h.jobs) (i : Nat) : knw h' i = knw h i ∧ jat h' i = jat h i := by
  unfold knw jat
  rw [e]
  exact ⟨rfl, rfl⟩
theorem las_set {h h' : Hs} {i : Nat} {y : Jb} (e : h'.jobs = h.jobs.set i y) (hi : i < h.jobs.length) : jat h' i = y ∧ knw h' i = true ∧ ∀ j, j ≠ i → knw h' j = knw h j ∧ jat h' j = jat h j := by
  unfold knw jat
  rw [e]
  refine ⟨?_, by simpa using hi, fun j hj => ⟨by simp, ?_⟩⟩
  · rw [getElem!_pos _ i (by simpa using hi)]
    simp
  · by_cases hl : j < h.jobs.length
    · rw [getElem!_pos _ j (by simpa using hl), getElem!_pos _ j hl, List.getElem_set_ne (Ne.symm hj)]
    · rw [getElem!_neg _ j (by simpa using hl), getElem!_neg _ j hl]
theorem las_add {h h' : Hs} {y : Jb} (e : h'.jobs = h.jobs ++ [y]) : jat h' h.jobs.length = y ∧ knw h' h.jobs.length = true ∧ ∀ j, j ≠ h.jobs.length → knw h' j = knw h j ∧ (knw h j = true → jat h' j = jat h j) := by
  unfold knw jat
  rw [e]
  refine ⟨?_, by simp, fun j hj => ⟨?_, fun hk => ?_⟩⟩
  · rw [getElem!_pos _ _ (by simp)]
    simp
  · rw [List.length_append, List.length_singleton]
    exact decide_eq_decide.2 (by omega)
  · have hl : j < h.jobs.length := of_decide_eq_true hk
    rw [getElem!_pos _ j (by simp; omega), getElem!_pos _ j hl, List.getElem_append_left hl]
theorem isS_of {h : Hs} {i : Nat} {s : Int} (hk : knw h i = true) (hj : (jat h i).st = s) : isS h i s = true := by
  unfold isS
  rw [hk, hj]
  simp
theorem hld_knw {h : Hs} {i : Nat} {b : Int} (hh : hld h i b = true) : i < h.jobs.length := by
  unfold hld isS knw at hh
  simp only [Bool.and_eq_true, decide_eq_true_eq] at hh
  exact hh.1.1
theorem isS_knw {h : Hs} {i : Nat} {s : Int} (hh : isS h i s = true) : i < h.jobs.length := by
  unfold isS knw at hh
  simp only [Bool.and_eq_true, decide_eq_true_eq] at hh
  exact hh.1
theorem las_step {h : Hs} {e : Ev} {n : Nat} (hs : h.sh = false) (ho : okE e = true) (h4 : e.k ≠ 4) (h14 : e.k ≠ 14) (hf : flts (stR h e) n 9 = []) {jo : Int} (hj : 1 ≤ jo ∧ jo ≤ 8) {a b t : Int} (H : Las h (jo - 1).toNat a b) (ht : h.top = t) :
    (stp h e).sh = false ∧ (stp h e).top = (if e.k = 5 then max t e.ba else t) ∧
    Las (stp h e) (jo - 1).toNat (if e.jo = jo ∧ (e.k = 2 ∨ e.k = 5 ∨ e.k = 6 ∨ e.k = 7 ∨ e.k = 9) then e.k else a) (if e.jo = jo ∧ (e.k = 2 ∨ e.k = 5 ∨ e.k = 6 ∨ e.k = 7 ∨ e.k = 9) then e.ba else b) := by
  refine ⟨sh_stp h h4 h14, ?_⟩
  have e1 : pre h e = h := by
    unfold pre
    rw [if_neg h14]
    obtain ⟨a, b, c, d, e, f, g, s, u⟩ := h
    dsimp only at hs
    subst hs
    rfl
  have em : msg h = false := by unfold msg; rw [hs]; rfl
  have hR : stR h e = { brkA h e (jix e) with a8 := (brkA h e (jix e)).a8 } := by
    unfold stR
    rw [e1, em]
    simp
  have hS : stp h e = bhdA h e (jix e) := by unfold stp; rw [e1]
  rw [hS]
  have q := flts_nil hf
  rw [hR] at q
  have q1 := q 1 (by omega)
  have q4 := q 4 (by omega)
  have q8 := q 8 (by omega)
  clear q hR hS em e1 hf
  have hk := okE_k ho
  have hjb : jobK e.k = true → 1 ≤ e.jo ∧ e.jo ≤ 8 := fun hk => okE_job ho hk
  have hjx : 1 ≤ e.jo ∧ e.jo ≤ 8 → (e.jo = jo ↔ (jo - 1).toNat = jix e) := fun h => by unfold jix; omega
  generalize (jo - 1).toNat = i0 at *
  generalize jix e = ix at *
  simp only [Ru.at] at q1 q4 q8
  have h14' : e.k = 1 ∨ e.k = 2 ∨ e.k = 3 ∨ e.k = 5 ∨ e.k = 6 ∨ e.k = 7 ∨ e.k = 8 ∨ e.k = 9 ∨ e.k = 10 ∨ e.k = 11 ∨ e.k = 12 ∨ e.k = 13 := by omega
  have same : ∀ {h' : Hs}, h'.jobs = h.jobs → h'.top = h.top → e.k ≠ 2 → e.k ≠ 5 → e.k ≠ 6 → e.k ≠ 7 → e.k ≠ 9 → h'.top = (if e.k = 5 then max t e.ba else t) ∧ Las h' i0 (if e.jo = jo ∧ (e.k = 2 ∨ e.k = 5 ∨ e.k = 6 ∨ e.k = 7 ∨ e.k = 9) then e.k else a) (if e.jo = jo ∧ (e.k = 2 ∨ e.k = 5 ∨ e.k = 6 ∨ e.k = 7 ∨ e.k = 9) then e.ba else b) := fun {h'} g1 g2 k2 k5 k6 k7 k9 => by
    rw [if_neg k5, if_neg (by simp [k2, k5, k6, k7, k9]), if_neg (by simp [k2, k5, k6, k7, k9])]
    refine ⟨g2.trans ht, H.keep (las_jobs g1 i0).1 fun _ => ?_⟩
    rw [(las_jobs g1 i0).2]
    exact ⟨rfl, rfl⟩
  rcases h14' with hk | hk | hk | hk | hk | hk | hk | hk | hk | hk | hk | hk
  · exact same (by unfold bhdA; simp [hk]) (by unfold bhdA; simp [hk]) (by omega) (by omega) (by omega) (by omega) (by omega)
  · -- submitted
    simp [brkA, hk] at q8
    have hx := hjx (hjb (by rw [hk]; rfl))
    have hn : ix = h.jobs.length := by simpa [nxt] using q8
    subst hn
    have hb : bhdA h e h.jobs.length = lt_ h h.jobs.length ⟨1, 0, 0, 0, []⟩ := by
      unfold bhdA
      rw [if_pos hk, if_pos q8]
    rw [hb]
    have hjs : (lt_ h h.jobs.length ⟨1, 0, 0, 0, []⟩).jobs = h.jobs ++ [⟨1, 0, 0, 0, []⟩] := by
      unfold lt_
      rw [if_neg (by omega)]
    obtain ⟨g1, g2, g3⟩ := las_add hjs
    refine ⟨by rw [if_neg (by omega)]; exact ht, ?_⟩
    by_cases hi : e.jo = jo
    · rw [if_pos ⟨hi, .inl hk⟩, if_pos ⟨hi, .inl hk⟩, hk, hx.1 hi]
      exact .sub _ (isS_of g2 (by rw [g1]))
    · rw [if_neg (by simp [hi]), if_neg (by simp [hi])]
      obtain ⟨g4, g5⟩ := g3 i0 (fun h => hi (hx.2 h))
      exact H.keep g4 fun h => by rw [g5 h]; exact ⟨rfl, rfl⟩
  · exact same (by unfold bhdA; simp [hk]) (by unfold bhdA; simp [hk]) (by omega) (by omega) (by omega) (by omega) (by omega)
  · -- granted
    simp [brkA, hk] at q4
    have hx := hjx (hjb (by rw [hk]; rfl))
    have hn := isS_knw q4
    have hb : bhdA h e ix = { lt_ h ix ⟨2, e.ba, 0, 0, []⟩ with top := max h.top e.ba } := by
      unfold bhdA
      have hk1 : knw h ix = true := decide_eq_true hn
      simp [hk, hk1, lt_]
    rw [hb]
    have hjs : ({ lt_ h ix ⟨2, e.ba, 0, 0, []⟩ with top := max h.top e.ba } : Hs).jobs = h.jobs.set ix ⟨2, e.ba, 0, 0, []⟩ := by
      unfold lt_
      show (if _ then _ else _) = _
      rw [if_pos hn]
    obtain ⟨g1, g2, g3⟩ := las_set hjs hn
    refine ⟨by rw [if_pos hk, ← ht], ?_⟩
    by_cases hi : e.jo = jo
    · rw [if_pos ⟨hi, .inr (.inl hk)⟩, if_pos ⟨hi, .inr (.inl hk)⟩, hk, hx.1 hi]
      exact .gra _ (isS_of g2 (by rw [g1])) (by rw [g1])
    · rw [if_neg (by simp [hi]), if_neg (by simp [hi])]
      obtain ⟨g4, g5⟩ := g3 i0 (fun h => hi (hx.2 h))
      exact H.keep g4 fun h => by rw [g5]; exact ⟨rfl, rfl⟩
  · -- expired
    simp [brkA, hk] at q4
    have hx := hjx (hjb (by rw [hk]; rfl))
    have hn := hld_knw q4
    have hb : bhdA h e ix = { h with jobs := h.jobs.set ix { jat h ix with st := 1 } } := by
      unfold bhdA
      simp [hk, q4]
    rw [hb]
    obtain ⟨g1, g2, g3⟩ := las_set (h := h) (h' := { h with jobs := h.jobs.set ix { jat h ix with st := 1 } }) rfl hn
    refine ⟨by rw [if_neg (by omega)]; exact ht, ?_⟩
    by_cases hi : e.jo = jo
    · rw [if_pos ⟨hi, by simp [hk]⟩, if_pos ⟨hi, by simp [hk]⟩, hk, hx.1 hi]
      exact .exp _ (isS_of g2 (by rw [g1]))
    · rw [if_neg (by simp [hi]), if_neg (by simp [hi])]
      obtain ⟨g4, g5⟩ := g3 i0 (fun h => hi (hx.2 h))
      exact H.keep g4 fun h => by rw [g5]; exact ⟨rfl, rfl⟩
  · -- lost
    simp [brkA, hk] at q1 q4
    have q4 := q4 q1
    have hx := hjx (hjb (by rw [hk]; rfl))
    have hn := hld_knw q4
    have hb : bhdA h e ix = { h with jobs := h.jobs.set ix { jat h ix with st := 4 } } := by
      unfold bhdA
      simp [hk, q4]
    rw [hb]
    obtain ⟨g1, g2, g3⟩ := las_set (h := h) (h' := { h with jobs := h.jobs.set ix { jat h ix with st := 4 } }) rfl hn
    refine ⟨by rw [if_neg (by omega)]; exact ht, ?_⟩
    by_cases hi : e.jo = jo
    · rw [if_pos ⟨hi, by simp [hk]⟩, if_pos ⟨hi, by simp [hk]⟩, hk, hx.1 hi]
      exact .los _ (isS_of g2 (by rw [g1]))
    · rw [if_neg (by simp [hi]), if_neg (by simp [hi])]
      obtain ⟨g4, g5⟩ := g3 i0 (fun h => hi (hx.2 h))
      exact H.keep g4 fun h => by rw [g5]; exact ⟨rfl, rfl⟩
  · -- stored
    simp [brkA, hk] at q4
    have hn := hld_knw q4
    have hb : bhdA h e ix = { h with jobs := h.jobs.set ix { jat h ix with lg := (jat h ix).lg ++ e.ts } } := by
      unfold bhdA
      simp [hk, q4]
    rw [hb]
    obtain ⟨g1, g2, g3⟩ := las_set (h := h) (h' := { h with jobs := h.jobs.set ix { jat h ix with lg := (jat h ix).lg ++ e.ts } }) rfl hn
    refine ⟨by rw [if_neg (by omega)]; exact ht, ?_⟩
    rw [if_neg (by simp [hk]), if_neg (by simp [hk])]
    by_cases hi : i0 = ix
    · subst hi
      exact H.keep (by rw [g2]; unfold knw; simp [hn]) fun h => by rw [g1]; exact ⟨rfl, rfl⟩
    · obtain ⟨g4, g5⟩ := g3 i0 hi
      exact H.keep g4 fun h => by rw [g5]; exact ⟨rfl, rfl⟩
  · -- recorded
    simp [brkA, hk] at q1 q4
    have q4 := q4 q1
    have hx := hjx (hjb (by rw [hk]; rfl))
    have hn := hld_knw q4
    have hb : bhdA h e ix = { h with jobs := h.jobs.set ix { jat h ix with st := 3, rt := e.rt, rb := e.rb } } := by
      unfold bhdA
      simp [hk, q4]
    rw [hb]
    obtain ⟨g1, g2, g3⟩ := las_set (h := h) (h' := { h with jobs := h.jobs.set ix { jat h ix with st := 3, rt := e.rt, rb := e.rb } }) rfl hn
    refine ⟨by rw [if_neg (by omega)]; exact ht, ?_⟩
    by_cases hi : e.jo = jo
    · rw [if_pos ⟨hi, by simp [hk]⟩, if_pos ⟨hi, by simp [hk]⟩, hk, hx.1 hi]
      exact .reco _ (isS_of g2 (by rw [g1]))
    · rw [if_neg (by simp [hi]), if_neg (by simp [hi])]
      obtain ⟨g4, g5⟩ := g3 i0 (fun h => hi (hx.2 h))
      exact H.keep g4 fun h => by rw [g5]; exact ⟨rfl, rfl⟩
  all_goals exact same (by unfold bhdA; simp [hk] <;> split <;> rfl) (by unfold bhdA; simp [hk] <;> split <;> rfl) (by omega) (by omega) (by omega) (by omega) (by omega)
/-- what AuditJudges asks, behind the first i -/
theorem judges_inv {l : List Ev} (ha : l.all okE = true) (hA : allN l l.length = []) {jo : Int} (hj : 1 ≤ jo ∧ jo ≤ 8) : ∀ i, i ≤ l.length → (∀ k, k < i → (l[k]!).k ≠ 4 ∧ (l[k]!).k ≠ 14) → (hN l i).sh = false ∧ (hN l i).top = (lasN l jo i).1 ∧ Las (hN l i) (jo - 1).toNat (lasN l jo i).2.1 (lasN l jo i).2.2
  | 0, _, _ => ⟨rfl, rfl, .none rfl⟩
  | i + 1, hi, hk => by
    obtain ⟨h1, h2, h3⟩ := judges_inv ha hA hj i (by omega) fun k hk' => hk k (by omega)
    have hm : l[i]! ∈ l := by rw [getElem!_pos l i (by omega)]; exact List.getElem_mem (by omega)
    have hf : flts (stR (hN l i) l[i]!) i 9 = [] := by
      obtain ⟨t, ht, _⟩ := allN_pre l (n := i + 1) l.length hi
      rw [hA] at ht
      have h5 := (List.append_eq_nil_iff.1 ht.symm).1
      exact (List.append_eq_nil_iff.1 h5).2
    obtain ⟨g1, g2, g3⟩ := las_step h1 (List.all_eq_true.1 ha _ hm) (hk i (by omega)).1 (hk i (by omega)).2 hf hj h3 h2
    exact ⟨g1, g2, g3⟩
theorem isS_ne {h : Hs} {i : Nat} {s s' : Int} (hh : isS h i s = true) (hne : s ≠ s') : isS h i s' = false := by
  unfold isS at hh ⊢
  simp only [Bool.and_eq_true, beq_iff_eq] at hh
  rw [hh.1, hh.2]
  simpa using hne
theorem las_bools {h : Hs} {i : Nat} {a b : Int} (H : Las h i a b) (x : Int) : isS h i 1 = (a == 2 || a == 6) ∧ hld h i x = (a == 5 && b == x) := by
  unfold hld
  cases H with
  | none h1 => unfold isS; rw [h1]; exact ⟨rfl, rfl⟩
  | sub b h1 => rw [h1, isS_ne h1 (by decide)]; exact ⟨rfl, rfl⟩
  | exp b h1 => rw [h1, isS_ne h1 (by decide)]; exact ⟨rfl, rfl⟩
  | gra b h1 h2 => rw [h1, isS_ne h1 (by decide), h2]; exact ⟨rfl, rfl⟩
  | los b h1 => rw [isS_ne h1 (by decide), isS_ne h1 (by decide)]; exact ⟨rfl, rfl⟩
  | reco b h1 => rw [isS_ne h1 (by decide), isS_ne h1 (by decide)]; exact ⟨rfl, rfl⟩
theorem hld_stl {h : Hs} {i : Nat} {b : Int} (hh : hld h i b = true) : stl h i = false := by
  unfold hld at hh
  rw [Bool.and_eq_true] at hh
  unfold stl
  rw [isS_ne hh.1 (by decide), isS_ne hh.1 (by decide)]
  rfl
theorem flts_ne {r : Ru} {i j : Nat} (hj : j < 9) (h : r.at j = true) : flts r i 9 ≠ [] := fun hn => by
  have := flts_nil hn j hj
  rw [h] at this
  cases this
/-- what the law asks of the last -/
def fineB (s : Int × Int × Int) (e : Ev) : Bool := if e.k = 5 then (s.2.1 == 2 || s.2.1 == 6) && decide (s.1 < e.ba) else s.2.1 == 5 && s.2.2 == e.ba
theorem app_get (l : List Ev) (e : Ev) : (l ++ [e])[l.length]! = e := by
  rw [getElem!_pos _ _ (by simp)]
  simp
theorem judges_pure {l : List Ev} (hE : allE l = 0) (hA : allL l = []) (h65 : l.length ≠ 65536) {e : Ev} (hj : 1 ≤ e.jo ∧ e.jo ≤ 8) (hk : e.k = 5 ∨ e.k = 6 ∨ e.k = 7) (hno : ∀ k, k < l.length → (l[k]!).k ≠ 4 ∧ (l[k]!).k ≠ 14) :
    allE (l ++ [e]) = 0 ∧ (fineB (lasN l e.jo l.length) e = true → allL (l ++ [e]) = []) ∧ (fineB (lasN l e.jo l.length) e = false → allL (l ++ [e]) ≠ [] ∧ ∀ x ∈ allL (l ++ [e]), x.2 = l.length) := by
  obtain ⟨h1, h2⟩ := allE_zero hE
  have hA' : allN l l.length = [] := by unfold allL at hA; rwa [if_pos hE] at hA
  have ho : okE e = true := by
    unfold okE
    rcases hk with h | h | h <;> simp [h, jobK, idxK, hj]
  have hE2 : allE (l ++ [e]) = 0 := by
    unfold allE
    rw [if_neg (by simp; omega), if_pos]
    rw [List.all_append, h2]
    simp [ho]
  refine ⟨hE2, ?_⟩
  have hL : allL (l ++ [e]) = flts (stR (hN l l.length) e) l.length 9 := by
    have ht : (l ++ [e]).take l.length = l := by simp
    unfold allL
    rw [if_pos hE2, List.length_append, List.length_singleton]
    show allN (l ++ [e]) l.length ++ flts (stR (hN (l ++ [e]) l.length) (l ++ [e])[l.length]!) l.length 9 = _
    have k1 := allN_take (l ++ [e]) (n := l.length) (by simp) l.length (Nat.le_refl _)
    have k2 := hN_take (l ++ [e]) (n := l.length) (by simp) l.length (Nat.le_refl _)
    rw [ht] at k1 k2
    rw [← k1, ← k2, app_get, hA', List.nil_append]
  rw [hL]
  obtain ⟨hs, htop, hLas⟩ := judges_inv h2 hA' hj l.length (Nat.le_refl _) hno
  have h14 : e.k ≠ 14 := by omega
  generalize hN l l.length = h at *
  have e1 : pre h e = h := by
    unfold pre
    rw [if_neg h14]
    obtain ⟨a, b, c, d, e, f, g, s, u⟩ := h
    dsimp only at hs
    subst hs
    rfl
  have em : msg h = false := by unfold msg; rw [hs]; rfl
  have hR : stR h e = { brkA h e (jix e) with a8 := (brkA h e (jix e)).a8 } := by
    unfold stR
    rw [e1, em]
    simp
  have hix : jix e = (e.jo - 1).toNat := rfl
  rw [hR, hix]
  generalize (e.jo - 1).toNat = i0 at *
  have hb := las_bools hLas e.ba
  have hst := fun h1 => hld_stl (h := h) (i := i0) (b := e.ba) h1
  refine ⟨fun hf => flts_nil_of ?_, fun hf => ⟨?_, fun x hx => (flts_mem hx).1⟩⟩
  · rcases hk with hk | hk | hk
    · unfold fineB at hf
      rw [if_pos hk, ← hb.1, Bool.and_eq_true, decide_eq_true_eq, ← htop] at hf
      have hd : decide (e.ba ≤ h.top) = false := decide_eq_false (by omega)
      intro j hj
      unfold Ru.at
      split <;> simp [brkA, hk, hf.1, hd]
    · unfold fineB at hf
      rw [if_neg (by omega), ← hb.2] at hf
      intro j hj
      unfold Ru.at
      split <;> simp [brkA, hk, hf]
    · unfold fineB at hf
      rw [if_neg (by omega), ← hb.2] at hf
      intro j hj
      unfold Ru.at
      split <;> simp [brkA, hk, hf, hst hf]
  · rcases hk with hk | hk | hk
    · unfold fineB at hf
      rw [if_pos hk, ← hb.1, ← htop] at hf
      by_cases h1 : isS h i0 1 = true
      · rw [h1, Bool.true_and] at hf
        have hd : decide (e.ba ≤ h.top) = true := decide_eq_true (by have := of_decide_eq_false hf; omega)
        exact flts_ne (j := 3) (by omega) (by simp [Ru.at, brkA, hk, hd])
      · have h1' : isS h i0 1 = false := by simpa using h1
        exact flts_ne (j := 4) (by omega) (by simp [Ru.at, brkA, hk, h1'])
    · unfold fineB at hf
      rw [if_neg (by omega), ← hb.2] at hf
      exact flts_ne (j := 4) (by omega) (by simp [Ru.at, brkA, hk, hf])
    · unfold fineB at hf
      rw [if_neg (by omega), ← hb.2] at hf
      by_cases h1 : stl h i0 = true
      · exact flts_ne (j := 1) (by omega) (by simp [Ru.at, brkA, hk, h1])
      · have h1' : stl h i0 = false := by simpa using h1
        exact flts_ne (j := 4) (by omega) (by simp [Ru.at, brkA, hk, hf, h1'])
end Go.Proofs.Ytjfgmdiafhkbgaa
