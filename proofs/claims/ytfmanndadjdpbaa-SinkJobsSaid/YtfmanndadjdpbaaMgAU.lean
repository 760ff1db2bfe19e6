import Derived.Test.YtfmanndadjdpbaaMgAT

section
namespace Go.Proofs.Ytfmanndadjdpbaa.K
open Go.RowKit Go.MapKept Go.Shelf
open Wr (Ms)
set_option maxRecDepth 20000

/-- the artefacts of a sink, by their jobs -/
structure Ls (s : St) (Y : List Az) : Prop where
  rise : Rise Y
  ok : ∀ y ∈ Y, 1 ≤ y.job ∧ y.job ≤ 8 ∧ 1 ≤ y.bdg ∧ y.bdg ≤ 1099511627776 ∧ y.pcs.length ≤ 16
  at_ : ∀ y ∈ Y, s y.job = (y.bdg, y.pcs)
  all : ∀ j, 1 ≤ (s j).1 → ∃ y ∈ Y, y.job = j
theorem Sb.ls {w : World} {b m : Nat} {A : List Az} {tv : Value} {T : List Ev} {j : Int} (h : Sb w b m A tv T j) : Ls (stA A) A :=
  ⟨h.map.1, h.ok, fun y hy => by unfold stA; rw [fnd_at h.map.1 hy], fun j hj => by
    have := fnd_mem ((has_bdg h j).2 hj)
    exact ⟨_, this.1, this.2⟩⟩
theorem Ls.of_cl {s : St} {A Y : List Az} (h : Ls s A) (e : Y.map cl = A.map cl) : Ls s Y := by
  have hm : ∀ y ∈ Y, ∃ a ∈ A, a.job = y.job ∧ a.bdg = y.bdg ∧ a.pcs = y.pcs := fun y hy => by
    have h1 : cl y ∈ A.map cl := by rw [← e]; exact List.mem_map.2 ⟨y, hy, rfl⟩
    obtain ⟨a, ha, e1⟩ := List.mem_map.1 h1
    simp only [cl, Az.mk.injEq, true_and] at e1
    exact ⟨a, ha, e1⟩
  have hm2 : ∀ a ∈ A, ∃ y ∈ Y, y.job = a.job := fun a ha => by
    have h1 : cl a ∈ Y.map cl := by rw [e]; exact List.mem_map.2 ⟨a, ha, rfl⟩
    obtain ⟨y, hy, e1⟩ := List.mem_map.1 h1
    simp only [cl, Az.mk.injEq, true_and] at e1
    exact ⟨y, hy, e1.1⟩
  refine ⟨?_, fun y hy => ?_, fun y hy => ?_, fun j hj => ?_⟩
  · have h1 := rise_cl h.rise
    rw [← e] at h1
    exact (List.pairwise_map (f := cl) (R := fun a b => a.job < b.job)).1 h1
  · obtain ⟨a, ha, e1, e2, e3⟩ := hm y hy
    rw [← e1, ← e2, ← e3]
    exact h.ok a ha
  · obtain ⟨a, ha, e1, e2, e3⟩ := hm y hy
    rw [← e1, ← e2, ← e3]
    exact h.at_ a ha
  · obtain ⟨a, ha, e1⟩ := h.all j hj
    obtain ⟨y, hy, e2⟩ := hm2 a ha
    exact ⟨y, hy, e2.trans e1⟩
/-- Artefacts -/
theorem Sk.arts {w : World} {b : Nat} {s : St} {T : List Ev} {F : Nat → Prop} (h : Sk w b s T F) :
    Calls Try.prog 8 #[.pointer (some ⟨b, 0, none⟩)] w fun e w' => ∃ ad g cap Y, e = .returned (.slice ad Y.length cap) ∧ Rs w' ad g 0 Y ∧ Ls s Y ∧ (∀ y ∈ Y, w'.ownsRow w.heap.size 9 1 y.sl y.pcs.length (tcs y.pcs)) ∧ (0 < Y.length → w.heap.size ≤ g) ∧ Below w.heap.size w w' := by
  obtain ⟨m, A, tv, h, rfl, rfl⟩ := h
  refine (arts_any h).mono ?_
  rintro e w' ⟨ad, g, cap, Y, rfl, h1, h2, h3, h4, h5⟩
  exact ⟨ad, g, cap, Y, rfl, h1, h.ls.of_cl h2, h3, h4, h5⟩
theorem Sk.st {w : World} {b : Nat} {s : St} {T : List Ev} {F : Nat → Prop} (h : Sk w b s T F) (j : Int) : (1 ≤ j ∧ j ≤ 8 ∧ 1 ≤ (s j).1 ∧ (s j).1 ≤ 1099511627776 ∧ (s j).2.length ≤ 16) ∨ s j = (0, []) := by
  obtain ⟨m, A, tv, h, rfl, rfl⟩ := h
  unfold stA
  cases hh : has j A with
  | true =>
    have h1 := fnd_mem hh
    have h2 := h.ok _ h1.1
    rw [h1.2] at h2
    exact .inl h2
  | false => rw [fnd_none hh]; exact .inr rfl
theorem Sk.told_len {w : World} {b : Nat} {s : St} {T : List Ev} {F : Nat → Prop} (h : Sk w b s T F) : ∃ tv : Value, w.ownsRow 0 69 13 tv T.length (ecs T) := by
  obtain ⟨m, A, tv, h, _, _⟩ := h
  exact ⟨tv, h.told⟩

/-- what is said to a put -/
def rep (s : St) (m : Ms) : Ms :=
  if pe s m.jo m.ba m.ix m.tx = 161 then ⟨16, 0, 0, m.jo, m.ba, 0, 0, 0, 0, ⟨#[]⟩, ⟨#[]⟩⟩ else ⟨15, 0, 0, m.jo, m.ba, 0, cnt (nxt s m.jo m.ba m.ix m.tx) m.jo m.ba, 0, 0, ⟨#[]⟩, ⟨#[]⟩⟩
theorem results_msg1 {fn : Func} {p : Tmp} (h : fn.results = #[.cell p 61]) (tmps : Array Value) (w : World) (g : Nat) (cs : Array Value) (hp : tmps.getD p undef = .pointer (some ⟨g, 0, none⟩)) (hg : w.heap[g]? = some (.cells cs 61 (0, 0))) (hc : cs.size = 11) :
    (results fn tmps).run Try.prog w = .ok (.agg cs) w := by
  have he := run_loadVar_row (P := Try.prog) w g 61 61 cs (0, 0) _ hg Try.underlying61 rfl (by rw [hc]; kernel_rfl)
  rw [results_c1 h, hp]
  simp [asAddr, he]
theorem elev_of {w : World} {B : Nat} {c0 c1 c2 c3 c4 c5 c6 c7 c8 c9 c10 : Value} (h : w.heap[B]? = some (.cells #[c0, c1, c2, c3, c4, c5, c6, c7, c8, c9, c10] 61 (0, 0))) : w.cell? ⟨B, 0, none⟩ = some c0 ∧ w.cell? ⟨B, 1, none⟩ = some c1 ∧ w.cell? ⟨B, 2, none⟩ = some c2 ∧ w.cell? ⟨B, 3, none⟩ = some c3 ∧ w.cell? ⟨B, 4, none⟩ = some c4 ∧ w.cell? ⟨B, 5, none⟩ = some c5 ∧ w.cell? ⟨B, 6, none⟩ = some c6 ∧ w.cell? ⟨B, 7, none⟩ = some c7 ∧ w.cell? ⟨B, 8, none⟩ = some c8 ∧ w.cell? ⟨B, 9, none⟩ = some c9 ∧ w.cell? ⟨B, 10, none⟩ = some c10 ∧ w.frozen? ⟨B, 0, none⟩ = false ∧ w.frozen? ⟨B, 1, none⟩ = false ∧ w.frozen? ⟨B, 2, none⟩ = false ∧ w.frozen? ⟨B, 3, none⟩ = false ∧ w.frozen? ⟨B, 4, none⟩ = false ∧ w.frozen? ⟨B, 5, none⟩ = false ∧ w.frozen? ⟨B, 6, none⟩ = false ∧ w.frozen? ⟨B, 7, none⟩ = false ∧ w.frozen? ⟨B, 8, none⟩ = false ∧ w.frozen? ⟨B, 9, none⟩ = false ∧ w.frozen? ⟨B, 10, none⟩ = false := by
  simp [World.cell?, World.frozen?, h]
theorem elev_set {w : World} {B : Nat} {c0 c1 c2 c3 c4 c5 c6 c7 c8 c9 c10 : Value} (h : w.heap[B]? = some (.cells #[c0, c1, c2, c3, c4, c5, c6, c7, c8, c9, c10] 61 (0, 0))) (x0 x1 x2 x3 x4 x5 x6 x7 x8 x9 x10 : Value) : (((((((((((w.setCell ⟨B, 0, none⟩ x0).setCell ⟨B, 1, none⟩ x1).setCell ⟨B, 2, none⟩ x2).setCell ⟨B, 3, none⟩ x3).setCell ⟨B, 4, none⟩ x4).setCell ⟨B, 5, none⟩ x5).setCell ⟨B, 6, none⟩ x6).setCell ⟨B, 7, none⟩ x7).setCell ⟨B, 8, none⟩ x8).setCell ⟨B, 9, none⟩ x9).setCell ⟨B, 10, none⟩ x10).heap[B]? = some (.cells #[x0, x1, x2, x3, x4, x5, x6, x7, x8, x9, x10] 61 (0, 0)) := by
  simp [World.setCell, Array.getElem?_modify, h]
theorem mo1 {w0 w : World} {B i : Nat} (h : Mv (fun k => k = B) w0 w) (x : Value) : Mv (fun k => k = B) w0 (w.setCell ⟨B, i, none⟩ x) := h.grown (grown_set w B i x) (fun k e => .inl (by cases e; rfl))
theorem mo_set {w0 w : World} {B : Nat} (h : Mv (fun k => k = B) w0 w) (x0 x1 x2 x3 x4 x5 x6 x7 x8 x9 x10 : Value) : Mv (fun k => k = B) w0 (((((((((((w.setCell ⟨B, 0, none⟩ x0).setCell ⟨B, 1, none⟩ x1).setCell ⟨B, 2, none⟩ x2).setCell ⟨B, 3, none⟩ x3).setCell ⟨B, 4, none⟩ x4).setCell ⟨B, 5, none⟩ x5).setCell ⟨B, 6, none⟩ x6).setCell ⟨B, 7, none⟩ x7).setCell ⟨B, 8, none⟩ x8).setCell ⟨B, 9, none⟩ x9).setCell ⟨B, 10, none⟩ x10) := (mo1 (mo1 (mo1 (mo1 (mo1 (mo1 (mo1 (mo1 (mo1 (mo1 (mo1 h x0) x1) x2) x3) x4) x5) x6) x7) x8) x9) x10)
def So (w1 : World) (B : Nat) (w : World) : Prop := Mv (fun k => k = B) w1 w ∧ ∃ c0 c1 c2 c3 c4 c5 c6 c7 c8 c9 c10, w.heap[B]? = some (.cells #[c0, c1, c2, c3, c4, c5, c6, c7, c8, c9, c10] 61 (0, 0))
theorem So.below {w1 w w' : World} {B : Nat} (h : So w1 B w) (hb : Below w.heap.size w w') (hB : B < w1.heap.size) : So w1 B w' := by
  obtain ⟨h1, c0, c1, c2, c3, c4, c5, c6, c7, c8, c9, c10, h2⟩ := h
  exact ⟨h1.below hb, c0, c1, c2, c3, c4, c5, c6, c7, c8, c9, c10, (hb.block B (Nat.lt_of_lt_of_le hB h1.size)).trans h2⟩
set_option maxHeartbeats 2000000 in
theorem reply_any {w : World} {b : Nat} {s : St} {T : List Ev} {F : Nat → Prop} (h : Sk w b s T F) (hT : T.length ≤ 1600000000000) (m : Ms) :
    Calls Try.prog 21 #[.pointer (some ⟨b, 0, none⟩), .agg (msgC m)] w fun e w' => e = .returned (.agg (msgC (rep s m))) ∧ Gp F b (nxt s m.jo m.ba m.ix m.tx) (T ++ news s m.jo m.ba m.ix m.tx) w w' := by
  obtain ⟨k, se, nu, jo, ba, ix, co, rc, rb, tx, pr⟩ := m
  rw [show msgC (⟨k, se, nu, jo, ba, ix, co, rc, rb, tx, pr⟩ : Ms) = #[.int .i64 k, .int .i64 se, .int .i64 nu, .int .i64 jo, .int .i64 ba, .int .i64 ix, .int .i64 co, .int .i64 rc, .int .u64 (rb : Int), .string tx, .string pr] from rfl]
  have b2 := (below_alloc w (.cells (msgC ⟨k, se, nu, jo, ba, ix, co, rc, rb, tx, pr⟩) 61)).alloc (Nat.le_of_lt (by simp)) (.cells (msgC ⟨0, 0, 0, 0, 0, 0, 0, 0, 0, ⟨#[]⟩, ⟨#[]⟩⟩) 61)
  have HP := hide ((h.below b2).put hT jo ba ix tx)
  have HB := hide b2
  have HA : Hid (((w.alloc (.cells (msgC ⟨k, se, nu, jo, ba, ix, co, rc, rb, tx, pr⟩) 61)).alloc (.cells (msgC ⟨0, 0, 0, 0, 0, 0, 0, 0, 0, ⟨#[]⟩, ⟨#[]⟩⟩) 61)).heap[w.heap.size]? = some (.cells (msgC ⟨k, se, nu, jo, ba, ix, co, rc, rb, tx, pr⟩) 61 (0, 0))) := hide (((below_alloc _ _).block _ (by simp)).trans (heap_alloc_new w _))
  have HR : Hid (((w.alloc (.cells (msgC ⟨k, se, nu, jo, ba, ix, co, rc, rb, tx, pr⟩) 61)).alloc (.cells (msgC ⟨0, 0, 0, 0, 0, 0, 0, 0, 0, ⟨#[]⟩, ⟨#[]⟩⟩) 61)).heap[w.heap.size + 1]? = some (.cells (msgC ⟨0, 0, 0, 0, 0, 0, 0, 0, 0, ⟨#[]⟩, ⟨#[]⟩⟩) 61 (0, 0))) := hide (by
    have := heap_alloc_new (w.alloc (.cells (msgC ⟨k, se, nu, jo, ba, ix, co, rc, rb, tx, pr⟩) 61)) (.cells (msgC ⟨0, 0, 0, 0, 0, 0, 0, 0, 0, ⟨#[]⟩, ⟨#[]⟩⟩) 61)
    rw [World.size_alloc] at this
    exact this)
  have hs2 : ((w.alloc (.cells (msgC ⟨k, se, nu, jo, ba, ix, co, rc, rb, tx, pr⟩) 61)).alloc (.cells (msgC ⟨0, 0, 0, 0, 0, 0, 0, 0, 0, ⟨#[]⟩, ⟨#[]⟩⟩) 61)).heap.size = w.heap.size + 2 := by simp
  have HLT := hide h.lt
  unfold msgC at HP HB HA HR hs2
  clear h b2
  go_enter Try.func21, Try.ntmps21
  go_wp2_with fail
  generalize (w.alloc (.cells #[.int .i64 k, .int .i64 se, .int .i64 nu, .int .i64 jo, .int .i64 ba, .int .i64 ix, .int .i64 co, .int .i64 rc, .int .u64 (rb : Int), .string tx, .string pr] 61)).alloc (.cells #[.int .i64 0, .int .i64 0, .int .i64 0, .int .i64 0, .int .i64 0, .int .i64 0, .int .i64 0, .int .i64 0, .int .u64 0, .string ⟨#[]⟩, .string ⟨#[]⟩] 61) = W at *
  refine HP.out.mono ?_
  rintro e w1 ⟨rfl, hg⟩
  obtain ⟨F', hS, hM, hF⟩ := hg
  have HS := hide hS
  have HM := hide hM
  have HF := hide hF
  have hA1 := (hM.block _ (by omega) (fun hf => by have := HLT.out _ hf; omega)).trans HA.out
  have hR1 := (hM.block _ (by omega) (fun hf => by have := HLT.out _ hf; omega)).trans HR.out
  have hs1 := hM.size
  have a3 : w1.cell? ⟨w.heap.size, 3, none⟩ = some (.int .i64 jo) := by simp [World.cell?, hA1]
  have a4 : w1.cell? ⟨w.heap.size, 4, none⟩ = some (.int .i64 ba) := by simp [World.cell?, hA1]
  have HR1 := hide hR1
  have HA1 := hide hA1
  have hNF : ¬ F' (w.heap.size + 1) := fun hf => (hF _ hf).elim (fun h => by have := HLT.out _ h; omega) (fun h => by omega)
  have HN := hide hNF
  clear hS hM hF HA HR HP hA1 hR1 hNF
  by_cases hp : pe s jo ba ix tx = 161
  · have hp1 : (pe s jo ba ix tx == 161) = true := by simpa using hp
    have HE : Hid (rep s ⟨k, se, nu, jo, ba, ix, co, rc, rb, tx, pr⟩ = ⟨16, 0, 0, jo, ba, 0, 0, 0, 0, ⟨#[]⟩, ⟨#[]⟩⟩) := hide (if_pos hp)
    clear hp
    obtain ⟨q0, q1, q2, q3, q4, q5, q6, q7, q8, q9, q10, z0, z1, z2, z3, z4, z5, z6, z7, z8, z9, z10⟩ := elev_of HR1.out
    go_wp2_with fail
    (try simp only [Exit.inBlock, Exit.then])
    refine bodyPost_ret (results_msg1 rfl _ _ (w.heap.size + 1) #[.int .i64 16, .int .i64 0, .int .i64 0, .int .i64 jo, .int .i64 ba, .int .i64 0, .int .i64 0, .int .i64 0, .int .u64 0, .string ⟨#[]⟩, .string ⟨#[]⟩] rfl ?_ rfl) rfl ⟨by rw [HE.out]; rfl, ?_⟩
    · simp [World.setCell, Array.getElem?_modify, HR1.out]
    · refine ⟨F', HS.out.keep fun k hk => ?_, ?_, fun k hk => ?_⟩
      · have : w.heap.size + 1 ≠ k := fun e => HN.out (by rw [e]; exact hk)
        simp [World.setCell, Array.getElem?_modify, this]
      · exact ((Mv.of_below HB.out).trans HM.out (fun _ h => .inl h)).trans (mo_set (Mv.refl _ w1) _ _ _ _ _ _ _ _ _ _ _) (fun k e => .inr (by omega))
      · rcases HF.out k hk with h | h
        · exact .inl h
        · exact .inr (by omega)
  · have hp1 : (pe s jo ba ix tx == 161) = false := by simpa using hp
    have HE : Hid (rep s ⟨k, se, nu, jo, ba, ix, co, rc, rb, tx, pr⟩ = ⟨15, 0, 0, jo, ba, 0, cnt (nxt s jo ba ix tx) jo ba, 0, 0, ⟨#[]⟩, ⟨#[]⟩⟩) := hide (if_neg hp)
    clear hp
    have HCt : Hid (∀ w', So w1 (w.heap.size + 1) w' → Calls Try.prog 12 #[.pointer (some ⟨b, 0, none⟩), .int .i64 jo, .int .i64 ba] w' fun e w'' => e = .returned (.int .i64 (cnt (nxt s jo ba ix tx) jo ba)) ∧ Below w'.heap.size w' w'') := hide fun w' hw => (HS.out.keep (w' := w') fun k hk => hw.1.block k (HS.out.lt k hk) (fun e => HN.out (by rw [← e]; exact hk))).count jo ba
    have HCe : Hid (∀ w', So w1 (w.heap.size + 1) w' → w'.cell? ⟨w.heap.size, 3, none⟩ = some (.int .i64 jo) ∧ w'.cell? ⟨w.heap.size, 4, none⟩ = some (.int .i64 ba)) := hide fun w' hw => by
      have h1 := (hw.1.block w.heap.size (by omega) (by omega)).trans HA1.out
      simp [World.cell?, h1]
    have HLR : Hid (w.heap.size + 1 < w1.heap.size) := hide (by omega)
    have HS0 : Hid (So w1 (w.heap.size + 1) w1.drew) := hide ⟨⟨rfl, rfl, rfl, Nat.le_refl _, fun _ _ _ => rfl⟩, _, _, _, _, _, _, _, _, _, _, _, HR1.out⟩
    go_wp2_with fail
    refine wp_region_held_drew (S := fun w' => So w1 (w.heap.size + 1) w') (by kernel_rfl) (HS0.out) (fun hHeld => ?_)
    refine wpAnyH_take (i := 0) (v := .pointer (some ⟨w.heap.size, 3, none⟩)) rfl (by kernel_rfl) (by kernel_rfl) (by kernel_rfl) (fun _ _ _ h => h) (Or.inl ⟨by kernel_rfl, fun w1 hSw => by clear hHeld; obtain ⟨k3, k4⟩ := HCe.out _ hSw; go_simp⟩) hHeld ?_
    try simp only [Act.put]
    try simp only [List.getElem_toArray]
    try simp only [List.getElem_cons_succ]
    try simp only [List.getElem_cons_zero]
    try simp only [List.setIfInBounds_toArray]
    try simp only [List.set_cons_succ, List.set_cons_zero]
    refine wpAnyH_take (i := 1) (v := .int .i64 jo) rfl (by kernel_rfl) (by kernel_rfl) (by kernel_rfl) (fun _ _ _ h => h) (Or.inl ⟨by kernel_rfl, fun w1 hSw => by clear hHeld; obtain ⟨k3, k4⟩ := HCe.out _ hSw; go_simp⟩) hHeld ?_
    try simp only [Act.put]
    try simp only [List.getElem_toArray]
    try simp only [List.getElem_cons_succ]
    try simp only [List.getElem_cons_zero]
    try simp only [List.setIfInBounds_toArray]
    try simp only [List.set_cons_succ, List.set_cons_zero]
    refine wpAnyH_take (i := 2) (v := .pointer (some ⟨w.heap.size, 4, none⟩)) rfl (by kernel_rfl) (by kernel_rfl) (by kernel_rfl) (fun _ _ _ h => h) (Or.inl ⟨by kernel_rfl, fun w1 hSw => by clear hHeld; obtain ⟨k3, k4⟩ := HCe.out _ hSw; go_simp⟩) hHeld ?_
    try simp only [Act.put]
    try simp only [List.getElem_toArray]
    try simp only [List.getElem_cons_succ]
    try simp only [List.getElem_cons_zero]
    try simp only [List.setIfInBounds_toArray]
    try simp only [List.set_cons_succ, List.set_cons_zero]
    refine wpAnyH_take (i := 3) (v := .int .i64 ba) rfl (by kernel_rfl) (by kernel_rfl) (by kernel_rfl) (fun _ _ _ h => h) (Or.inl ⟨by kernel_rfl, fun w1 hSw => by clear hHeld; obtain ⟨k3, k4⟩ := HCe.out _ hSw; go_simp⟩) hHeld ?_
    try simp only [Act.put]
    try simp only [List.getElem_toArray]
    try simp only [List.getElem_cons_succ]
    try simp only [List.getElem_cons_zero]
    try simp only [List.setIfInBounds_toArray]
    try simp only [List.set_cons_succ, List.set_cons_zero]
    refine wpAnyH_take (i := 4) (v := .pointer (some ⟨b, 0, none⟩)) rfl (by kernel_rfl) (by kernel_rfl) (by kernel_rfl) (fun _ _ _ h => h) (Or.inl ⟨by kernel_rfl, fun w1 hSw => by clear hHeld; obtain ⟨k3, k4⟩ := HCe.out _ hSw; go_simp⟩) hHeld ?_
    try simp only [Act.put]
    try simp only [List.getElem_toArray]
    try simp only [List.getElem_cons_succ]
    try simp only [List.getElem_cons_zero]
    try simp only [List.setIfInBounds_toArray]
    try simp only [List.set_cons_succ, List.set_cons_zero]
    refine wpAnyH_take (i := 5) (v := .pointer (some ⟨w.heap.size, 3, none⟩)) rfl (by kernel_rfl) (by kernel_rfl) (by kernel_rfl) (fun _ _ _ h => h) (Or.inl ⟨by kernel_rfl, fun w1 hSw => by clear hHeld; obtain ⟨k3, k4⟩ := HCe.out _ hSw; go_simp⟩) hHeld ?_
    try simp only [Act.put]
    try simp only [List.getElem_toArray]
    try simp only [List.getElem_cons_succ]
    try simp only [List.getElem_cons_zero]
    try simp only [List.setIfInBounds_toArray]
    try simp only [List.set_cons_succ, List.set_cons_zero]
    refine wpAnyH_take (i := 6) (v := .int .i64 jo) rfl (by kernel_rfl) (by kernel_rfl) (by kernel_rfl) (fun _ _ _ h => h) (Or.inl ⟨by kernel_rfl, fun w1 hSw => by clear hHeld; obtain ⟨k3, k4⟩ := HCe.out _ hSw; go_simp⟩) hHeld ?_
    try simp only [Act.put]
    try simp only [List.getElem_toArray]
    try simp only [List.getElem_cons_succ]
    try simp only [List.getElem_cons_zero]
    try simp only [List.setIfInBounds_toArray]
    try simp only [List.set_cons_succ, List.set_cons_zero]
    refine wpAnyH_take (i := 7) (v := .pointer (some ⟨w.heap.size, 4, none⟩)) rfl (by kernel_rfl) (by kernel_rfl) (by kernel_rfl) (fun _ _ _ h => h) (Or.inl ⟨by kernel_rfl, fun w1 hSw => by clear hHeld; obtain ⟨k3, k4⟩ := HCe.out _ hSw; go_simp⟩) hHeld ?_
    try simp only [Act.put]
    try simp only [List.getElem_toArray]
    try simp only [List.getElem_cons_succ]
    try simp only [List.getElem_cons_zero]
    try simp only [List.setIfInBounds_toArray]
    try simp only [List.set_cons_succ, List.set_cons_zero]
    refine wpAnyH_take (i := 8) (v := .int .i64 ba) rfl (by kernel_rfl) (by kernel_rfl) (by kernel_rfl) (fun _ _ _ h => h) (Or.inl ⟨by kernel_rfl, fun w1 hSw => by clear hHeld; obtain ⟨k3, k4⟩ := HCe.out _ hSw; go_simp⟩) hHeld ?_
    try simp only [Act.put]
    try simp only [List.getElem_toArray]
    try simp only [List.getElem_cons_succ]
    try simp only [List.getElem_cons_zero]
    try simp only [List.setIfInBounds_toArray]
    try simp only [List.set_cons_succ, List.set_cons_zero]
    refine wpAnyH_ready (rs := [9]) (by kernel_rfl) (by simp) ?_
    refine AllReadyH.cons rfl (fun K hK => ?_) AllReadyH.nil
    go_simp
    refine (HCt.out _ hHeld).mono ?_
    rintro e V1 ⟨rfl, hb⟩
    have HS1 := hide (So.below hHeld hb HLR.out)
    clear hb
    refine hK.out _ _ (HS1.out) (fun hHeld => ?_)
    clear hK K
    try simp only [Act.put]
    try simp only [List.getElem_toArray]
    try simp only [List.getElem_cons_succ]
    try simp only [List.getElem_cons_zero]
    try simp only [List.setIfInBounds_toArray]
    try simp only [List.set_cons_succ, List.set_cons_zero]
    refine wpAnyH_take (i := 10) (v := .agg #[.int .i64 15, .int .i64 0, .int .i64 0, .int .i64 jo, .int .i64 ba, .int .i64 0, .int .i64 (cnt (nxt s jo ba ix tx) jo ba), .int .i64 0, .int .u64 0, .string ⟨#[]⟩, .string ⟨#[]⟩]) rfl (by kernel_rfl) (by kernel_rfl) (by kernel_rfl) (fun _ _ _ h => h) (Or.inl ⟨by kernel_rfl, fun w1 hSw => by clear hHeld; obtain ⟨k3, k4⟩ := HCe.out _ hSw; go_simp⟩) hHeld ?_
    try simp only [Act.put]
    try simp only [List.getElem_toArray]
    try simp only [List.getElem_cons_succ]
    try simp only [List.getElem_cons_zero]
    try simp only [List.setIfInBounds_toArray]
    try simp only [List.set_cons_succ, List.set_cons_zero]
    refine wpAnyH_ready (rs := [11]) (by kernel_rfl) (by simp) ?_
    refine AllReadyH.cons rfl (fun K hK => ?_) AllReadyH.nil
    obtain ⟨hMo, c0, c1, c2, c3, c4, c5, c6, c7, c8, c9, c10, hB⟩ := hHeld
    obtain ⟨q0, q1, q2, q3, q4, q5, q6, q7, q8, q9, q10, z0, z1, z2, z3, z4, z5, z6, z7, z8, z9, z10⟩ := elev_of hB
    have HB2 := hide hB
    have HMo := hide hMo
    clear hB hMo
    go_simp
    have HB3 := hide (elev_set HB2.out (.int .i64 15) (.int .i64 0) (.int .i64 0) (.int .i64 jo) (.int .i64 ba) (.int .i64 0) (.int .i64 (cnt (nxt s jo ba ix tx) jo ba)) (.int .i64 0) (.int .u64 0) (.string ⟨#[]⟩) (.string ⟨#[]⟩))
    refine hK.out _ _ (⟨mo_set HMo.out _ _ _ _ _ _ _ _ _ _ _, _, _, _, _, _, _, _, _, _, _, _, HB3.out⟩) (fun hHeld => ?_)
    clear hK K
    try simp only [Act.put]
    try simp only [List.getElem_toArray]
    try simp only [List.getElem_cons_succ]
    try simp only [List.getElem_cons_zero]
    try simp only [List.setIfInBounds_toArray]
    try simp only [List.set_cons_succ, List.set_cons_zero]
    refine wpAnyH_done (by kernel_rfl) ?_ _
    have HMf := hide hHeld.1
    clear hHeld
    go_wp2_with fail
    (try simp only [Exit.inBlock, Exit.then])
    refine bodyPost_ret (results_msg1 rfl _ _ (w.heap.size + 1) _ rfl HB3.out rfl) rfl ⟨by rw [HE.out]; rfl, ?_⟩
    refine ⟨F', HS.out.keep fun k hk => HMf.out.block k (HS.out.lt k hk) (fun e => HN.out (by rw [← e]; exact hk)), ?_, fun k hk => ?_⟩
    · exact ((Mv.of_below HB.out).trans HM.out (fun _ h => .inl h)).trans HMf.out (fun k e => .inr (by omega))
    · rcases HF.out k hk with h | h
      · exact .inl h
      · exact .inr (by omega)
end Go.Proofs.Ytfmanndadjdpbaa.K
end

section
namespace Go.Proofs.Ytfmanndadjdpbaa.K
open Go.RowKit Go.MapKept Go.Shelf
open Wr (Ms)
set_option maxRecDepth 20000

/-- is it a put? -/
def isPut (d : ByteArray) : Bool := decide ((Wr.decode limP d).2 = 0 ∧ (Wr.decode limP d).1.k = 6)
def hm (d : ByteArray) : Ms := (Wr.decode limP d).1
def hst (s : St) (d : ByteArray) : St := if isPut d = true then nxt s (hm d).jo (hm d).ba (hm d).ix (hm d).tx else s
def hnw (s : St) (d : ByteArray) : List Ev := if isPut d = true then news s (hm d).jo (hm d).ba (hm d).ix (hm d).tx else []
/-- behind a Hear -/
def HrP (F : Nat → Prop) (b : Nat) (s : St) (T : List Ev) (node life : Int) (d : ByteArray) (w : World) (e : Ending) (w' : World) : Prop :=
  Gp F b (hst s d) (T ++ hnw s d) w w' ∧
  ((isPut d = false ∧ e = .returned (.slice none 0 0)) ∨
   (isPut d = true ∧ ∃ g, e = .returned (.slice (some ⟨g, 0, none⟩) 1 1) ∧ w.heap.size ≤ g ∧ w'.heap[g]? = some (.cells #[.int .i64 0, .int .i64 1, .int .i64 0, .int .i64 node, .int .i64 life, .string (encB (rep s (hm d)))] 50 (0, 0)) ∧ Mv F w w'))
set_option maxHeartbeats 2000000 in
theorem hear_err {w : World} {b : Nat} {s : St} {T : List Ev} {F : Nat → Prop} (h : Sk w b s T F) (node life : Int) (d : ByteArray) (hd : d.size ≤ 9223372036854775807) (he : (Wr.decode limP d).2 ≠ 0) :
    Calls Try.prog 11 #[.pointer (some ⟨b, 0, none⟩), .agg #[.int .i64 node, .int .i64 life], .string d] w (HrP F b s T node life d w) := by
  have hp : isPut d = false := by unfold isPut; simp [he]
  have HP : Hid (isPut d = false ∧ hst s d = s ∧ hnw s d = []) := hide ⟨hp, by unfold hst; rw [hp]; rfl, by unfold hnw; rw [hp]; rfl⟩
  have H := hide h
  have HD := hide (fun w => decode_any d w hd)
  have hn : (((Wr.decode limP d).2 : Int) != 0) = true := by simpa using he
  generalize (Wr.decode limP d).2 = er at *
  generalize (Wr.decode limP d).1 = m at *
  obtain ⟨k, se, nu, jo, ba, ix, co, rc, rb, tx, pr⟩ := m
  rw [show msgC (⟨k, se, nu, jo, ba, ix, co, rc, rb, tx, pr⟩ : Ms) = #[.int .i64 k, .int .i64 se, .int .i64 nu, .int .i64 jo, .int .i64 ba, .int .i64 ix, .int .i64 co, .int .i64 rc, .int .u64 (rb : Int), .string tx, .string pr] from rfl] at HD
  clear h hp he
  go_enter Try.func11, Try.ntmps11
  go_wp2_with fail
  refine (HD.out _).mono ?_
  rintro e w1 ⟨rfl, hb1⟩
  have HB1 := hide (below_of (below_alloc w _) hb1)
  clear hb1 HD
  go_wp2_with fail
  go_ret
  refine ⟨?_, .inl ⟨HP.out.1, rfl⟩⟩
  rw [HP.out.2.1, HP.out.2.2, List.append_nil]
  exact H.out.gp (HB1.out.alloc HB1.out.size _)
set_option maxHeartbeats 2000000 in
theorem hear_kind {w : World} {b : Nat} {s : St} {T : List Ev} {F : Nat → Prop} (h : Sk w b s T F) (node life : Int) (d : ByteArray) (hd : d.size ≤ 9223372036854775807) (he : (Wr.decode limP d).2 = 0) (hk : (Wr.decode limP d).1.k ≠ 6) :
    Calls Try.prog 11 #[.pointer (some ⟨b, 0, none⟩), .agg #[.int .i64 node, .int .i64 life], .string d] w (HrP F b s T node life d w) := by
  have hp : isPut d = false := by unfold isPut; simp [hk]
  have HP : Hid (isPut d = false ∧ hst s d = s ∧ hnw s d = []) := hide ⟨hp, by unfold hst; rw [hp]; rfl, by unfold hnw; rw [hp]; rfl⟩
  have H := hide h
  have HD := hide (fun w => decode_any d w hd)
  rw [he] at HD
  clear he
  generalize (Wr.decode limP d).1 = m at *
  obtain ⟨k, se, nu, jo, ba, ix, co, rc, rb, tx, pr⟩ := m
  simp only at hk
  have hk2 : (k != 6) = true := by simpa using hk
  rw [show msgC (⟨k, se, nu, jo, ba, ix, co, rc, rb, tx, pr⟩ : Ms) = #[.int .i64 k, .int .i64 se, .int .i64 nu, .int .i64 jo, .int .i64 ba, .int .i64 ix, .int .i64 co, .int .i64 rc, .int .u64 (rb : Int), .string tx, .string pr] from rfl] at HD
  clear h hp hk
  go_enter Try.func11, Try.ntmps11
  go_wp2_with fail
  refine (HD.out _).mono ?_
  rintro e w1 ⟨rfl, hb1⟩
  have HB1 := hide (below_of (below_alloc w _) hb1)
  clear hb1 HD
  go_wp2_with fail
  go_ret
  refine ⟨?_, .inl ⟨HP.out.1, rfl⟩⟩
  rw [HP.out.2.1, HP.out.2.2, List.append_nil]
  exact H.out.gp (HB1.out.alloc HB1.out.size _)
set_option maxHeartbeats 2000000 in
theorem hear_put {w : World} {b : Nat} {s : St} {T : List Ev} {F : Nat → Prop} (h : Sk w b s T F) (hT : T.length ≤ 1600000000000) (node life : Int) (d : ByteArray) (hd : d.size ≤ 9223372036854775807) (he : (Wr.decode limP d).2 = 0) (hk : (Wr.decode limP d).1.k = 6) :
    Calls Try.prog 11 #[.pointer (some ⟨b, 0, none⟩), .agg #[.int .i64 node, .int .i64 life], .string d] w (HrP F b s T node life d w) := by
  have hp : isPut d = true := by unfold isPut; simp [hk, he]
  have H := hide h
  have HD := hide (fun w => decode_any d w hd)
  rw [he] at HD
  clear he
  have HP : Hid (isPut d = true ∧ hst s d = nxt s (hm d).jo (hm d).ba (hm d).ix (hm d).tx ∧ hnw s d = news s (hm d).jo (hm d).ba (hm d).ix (hm d).tx) := hide ⟨hp, by unfold hst; rw [hp]; rfl, by unfold hnw; rw [hp]; rfl⟩
  have hmd : hm d = (Wr.decode limP d).1 := rfl
  have HE : Hid (∀ w, Calls Try.prog 20 #[.agg (msgC (rep s (hm d)))] w fun e w' => e = .returned (.tuple #[.string (encB (rep s (hm d))), .int .i64 (Wr.check (rep s (hm d)) : Int)]) ∧ Below w.heap.size w w') := hide fun w => encode_any (rep s (hm d)) (by unfold rep; split <;> (show (0 : Nat) < _; decide)) w
  have HR : Hid (∀ w1, Sk w1 b s T F → Calls Try.prog 21 #[.pointer (some ⟨b, 0, none⟩), .agg (msgC (hm d))] w1 fun e w' => e = .returned (.agg (msgC (rep s (hm d)))) ∧ Gp F b (nxt s (hm d).jo (hm d).ba (hm d).ix (hm d).tx) (T ++ news s (hm d).jo (hm d).ba (hm d).ix (hm d).tx) w1 w') := hide fun w1 h1 => reply_any h1 hT (hm d)
  have HLT := hide h.lt
  rw [← hmd] at HD hk
  clear hmd
  generalize hq : hm d = m at *
  generalize hr : rep s m = r at *
  generalize hen : encB r = er at *
  generalize (Wr.check r : Int) = ck at *
  have HQ : Hid (encB (rep s (hm d)) = er) := hide (by rw [hq, hr]; exact hen)
  obtain ⟨k, se, nu, jo, ba, ix, co, rc, rb, tx, pr⟩ := m
  obtain ⟨k2, se2, nu2, jo2, ba2, ix2, co2, rc2, rb2, tx2, pr2⟩ := r
  simp only at hk HP
  subst hk
  unfold msgC at HD HR HE
  dsimp only at HD HR HE
  clear h hp hq hr hen hT hd
  go_enter Try.func11, Try.ntmps11
  go_wp2_with fail
  refine (HD.out _).mono ?_
  rintro e w1 ⟨rfl, hb1⟩
  have HB1 := hide (below_of (below_alloc w (.cells #[.int .i64 node, .int .i64 life] 31)) hb1)
  have hA1 : w1.heap[w.heap.size]? = some (.cells #[.int .i64 node, .int .i64 life] 31 (0, 0)) := (hb1.block _ (by simp)).trans (heap_alloc_new w _)
  have hs1 : w.heap.size < w1.heap.size := lt_blk hA1
  have HA1 := hide hA1
  clear hb1 HD hA1
  go_wp2_with fail
  have HB2 := hide (HB1.out.alloc HB1.out.size (.cells #[.int .i64 6, .int .i64 se, .int .i64 nu, .int .i64 jo, .int .i64 ba, .int .i64 ix, .int .i64 co, .int .i64 rc, .int .u64 (rb : Int), .string tx, .string pr] 61))
  refine (HR.out _ (H.out.below HB2.out)).mono ?_
  rintro e w3 ⟨rfl, hg3⟩
  have hg3' := Gp.pre HB2.out hg3
  obtain ⟨_, _, hM3, _⟩ := hg3
  have hA3 : w3.heap[w.heap.size]? = some (.cells #[.int .i64 node, .int .i64 life] 31 (0, 0)) := (hM3.block _ (by simp; omega) (fun hf => by have := HLT.out _ hf; omega)).trans (((below_alloc w1 _).block _ hs1).trans HA1.out)
  have HA3 := hide hA3
  have HG3 := hide hg3'
  have hs3 : w.heap.size < w3.heap.size := lt_blk hA3
  clear hM3 hg3' HB2 HR hA3
  go_wp2_with fail
  refine (HE.out _).mono ?_
  rintro e w4 ⟨rfl, hb4⟩
  have hA4 := (hb4.block _ hs3).trans HA3.out
  have n0 : w4.cell? ⟨w.heap.size, 0, none⟩ = some (.int .i64 node) := by simp [World.cell?, hA4]
  have n1 : w4.cell? ⟨w.heap.size, 1, none⟩ = some (.int .i64 life) := by simp [World.cell?, hA4]
  have HG4 := hide (HG3.out.below hb4)
  have hs4 : w.heap.size ≤ w4.heap.size := by have := hb4.size; omega
  clear hb4 hA4 HE
  go_wp2_with fail
  go_ret
  have hgf := HG4.out.below (below_alloc w4 (.cells #[.int .i64 0, .int .i64 1, .int .i64 0, .int .i64 node, .int .i64 life, .string er] 50))
  refine ⟨?_, .inr ⟨HP.out.1, w4.heap.size, rfl, hs4, by rw [HQ.out]; exact heap_alloc_new w4 _, ?_⟩⟩
  · rw [HP.out.2.1, HP.out.2.2]
    exact hgf
  · obtain ⟨_, _, hM, _⟩ := hgf
    exact hM
/-- Hear -/
theorem Sk.hear {w : World} {b : Nat} {s : St} {T : List Ev} {F : Nat → Prop} (h : Sk w b s T F) (hT : T.length ≤ 1600000000000) (node life : Int) (d : ByteArray) (hd : d.size ≤ 9223372036854775807) :
    Calls Try.prog 11 #[.pointer (some ⟨b, 0, none⟩), .agg #[.int .i64 node, .int .i64 life], .string d] w (HrP F b s T node life d w) := by
  by_cases he : (Wr.decode limP d).2 = 0
  · by_cases hk : (Wr.decode limP d).1.k = 6
    · exact hear_put h hT node life d hd he hk
    · exact hear_kind h node life d hd he hk
  · exact hear_err h node life d hd he
end Go.Proofs.Ytfmanndadjdpbaa.K
end

section
namespace Go.Proofs.Ytfmanndadjdpbaa.K
open Go.RowKit Go.MapKept Go.Shelf
open Wr (Ms)
set_option maxRecDepth 20000

theorem Gp.low {w w' : World} {b B : Nat} {s : St} {T : List Ev} {F : Nat → Prop} (h : Gp F b s T w w') (hl : ∀ k, F k → B ≤ k) (hB : B ≤ w.heap.size) : ∃ F', Sk w' b s T F' ∧ (∀ k, F' k → B ≤ k) ∧ Below B w w' := by
  obtain ⟨F', h1, h2, h3⟩ := h
  exact ⟨F', h1, fun k hk => (h3 k hk).elim (hl k) (fun h => by omega), ⟨h2.os, h2.tape, h2.output, h2.size, fun k hk => h2.block k (by omega) (fun hf => by have := hl k hf; omega)⟩⟩
def sA : St := fun j => if j = 1 then (5, []) else (0, [])
def sB : St := fun j => if j = 1 then (5, [⟨#[97]⟩]) else (0, [])
theorem pe_1 : pe st0 1 5 0 ⟨#[]⟩ = 0 := by decide
theorem adm_1 : adm st0 1 5 0 ⟨#[]⟩ = true := by decide
theorem ans_1 : ans st0 1 5 0 ⟨#[]⟩ = 1 := by decide
theorem news_1 : news st0 1 5 0 ⟨#[]⟩ = [⟨1, 5, 0, ⟨#[]⟩⟩] := by unfold news; rw [adm_1]; rfl
theorem nxt_1 : nxt st0 1 5 0 ⟨#[]⟩ = sA := by
  unfold nxt
  rw [adm_1, if_pos rfl]
  funext j
  unfold st0 sA
  by_cases e : j = 1
  · simp [e]
  · simp [e]
theorem put_1 {w : World} {b B : Nat} {T : List Ev} {F : Nat → Prop} (h : Sk w b st0 T F) (hT : T.length ≤ 1600000000000) (hl : ∀ k, F k → B ≤ k) (hB : B ≤ w.heap.size) :
    Calls Try.prog 7 #[.pointer (some ⟨b, 0, none⟩), .int .i64 1, .int .i64 5, .int .i64 0, .string ⟨#[]⟩] w fun e w' => e = .returned (.tuple #[.int .i64 1, .bool true, .int .i64 0]) ∧ ∃ F', Sk w' b sA (T ++ [⟨1, 5, 0, ⟨#[]⟩⟩]) F' ∧ (∀ k, F' k → B ≤ k) ∧ Below B w w' := by
  have h1 := h.put hT 1 5 0 ⟨#[]⟩
  rw [pe_1, adm_1, ans_1, news_1, nxt_1] at h1
  exact h1.mono fun e w' h2 => ⟨h2.1, h2.2.low hl hB⟩
theorem pe_2 : pe sA 1 5 1 ⟨#[97]⟩ = 0 := by decide
theorem adm_2 : adm sA 1 5 1 ⟨#[97]⟩ = true := by decide
theorem ans_2 : ans sA 1 5 1 ⟨#[97]⟩ = 2 := by decide
theorem news_2 : news sA 1 5 1 ⟨#[97]⟩ = [⟨1, 5, 1, ⟨#[97]⟩⟩] := by unfold news; rw [adm_2]; rfl
theorem nxt_2 : nxt sA 1 5 1 ⟨#[97]⟩ = sB := by
  unfold nxt
  rw [adm_2, if_pos rfl]
  funext j
  unfold sA sB
  by_cases e : j = 1
  · simp [e]
  · simp [e]
theorem put_2 {w : World} {b B : Nat} {T : List Ev} {F : Nat → Prop} (h : Sk w b sA T F) (hT : T.length ≤ 1600000000000) (hl : ∀ k, F k → B ≤ k) (hB : B ≤ w.heap.size) :
    Calls Try.prog 7 #[.pointer (some ⟨b, 0, none⟩), .int .i64 1, .int .i64 5, .int .i64 1, .string ⟨#[97]⟩] w fun e w' => e = .returned (.tuple #[.int .i64 2, .bool true, .int .i64 0]) ∧ ∃ F', Sk w' b sB (T ++ [⟨1, 5, 1, ⟨#[97]⟩⟩]) F' ∧ (∀ k, F' k → B ≤ k) ∧ Below B w w' := by
  have h1 := h.put hT 1 5 1 ⟨#[97]⟩
  rw [pe_2, adm_2, ans_2, news_2, nxt_2] at h1
  exact h1.mono fun e w' h2 => ⟨h2.1, h2.2.low hl hB⟩
theorem pe_3 : pe sB 1 4 0 ⟨#[]⟩ = 161 := by decide
theorem adm_3 : adm sB 1 4 0 ⟨#[]⟩ = false := by decide
theorem ans_3 : ans sB 1 4 0 ⟨#[]⟩ = 0 := by decide
theorem news_3 : news sB 1 4 0 ⟨#[]⟩ = [] := by unfold news; rw [adm_3]; rfl
theorem nxt_3 : nxt sB 1 4 0 ⟨#[]⟩ = sB := by unfold nxt; rw [adm_3]; rfl
theorem put_3 {w : World} {b B : Nat} {T : List Ev} {F : Nat → Prop} (h : Sk w b sB T F) (hT : T.length ≤ 1600000000000) (hl : ∀ k, F k → B ≤ k) (hB : B ≤ w.heap.size) :
    Calls Try.prog 7 #[.pointer (some ⟨b, 0, none⟩), .int .i64 1, .int .i64 4, .int .i64 0, .string ⟨#[]⟩] w fun e w' => e = .returned (.tuple #[.int .i64 0, .bool false, .int .i64 161]) ∧ ∃ F', Sk w' b sB (T ++ []) F' ∧ (∀ k, F' k → B ≤ k) ∧ Below B w w' := by
  have h1 := h.put hT 1 4 0 ⟨#[]⟩
  rw [pe_3, adm_3, ans_3, news_3, nxt_3] at h1
  exact h1.mono fun e w' h2 => ⟨h2.1, h2.2.low hl hB⟩
theorem pe_4 : pe sB 0 5 0 ⟨#[]⟩ = 160 := by decide
theorem adm_4 : adm sB 0 5 0 ⟨#[]⟩ = false := by decide
theorem ans_4 : ans sB 0 5 0 ⟨#[]⟩ = 0 := by decide
theorem news_4 : news sB 0 5 0 ⟨#[]⟩ = [] := by unfold news; rw [adm_4]; rfl
theorem nxt_4 : nxt sB 0 5 0 ⟨#[]⟩ = sB := by unfold nxt; rw [adm_4]; rfl
theorem put_4 {w : World} {b B : Nat} {T : List Ev} {F : Nat → Prop} (h : Sk w b sB T F) (hT : T.length ≤ 1600000000000) (hl : ∀ k, F k → B ≤ k) (hB : B ≤ w.heap.size) :
    Calls Try.prog 7 #[.pointer (some ⟨b, 0, none⟩), .int .i64 0, .int .i64 5, .int .i64 0, .string ⟨#[]⟩] w fun e w' => e = .returned (.tuple #[.int .i64 0, .bool false, .int .i64 160]) ∧ ∃ F', Sk w' b sB (T ++ []) F' ∧ (∀ k, F' k → B ≤ k) ∧ Below B w w' := by
  have h1 := h.put hT 0 5 0 ⟨#[]⟩
  rw [pe_4, adm_4, ans_4, news_4, nxt_4] at h1
  exact h1.mono fun e w' h2 => ⟨h2.1, h2.2.low hl hB⟩
theorem pe_5 : pe sB 1 5 3 ⟨#[]⟩ = 162 := by decide
theorem adm_5 : adm sB 1 5 3 ⟨#[]⟩ = false := by decide
theorem ans_5 : ans sB 1 5 3 ⟨#[]⟩ = 0 := by decide
theorem news_5 : news sB 1 5 3 ⟨#[]⟩ = [] := by unfold news; rw [adm_5]; rfl
theorem nxt_5 : nxt sB 1 5 3 ⟨#[]⟩ = sB := by unfold nxt; rw [adm_5]; rfl
theorem put_5 {w : World} {b B : Nat} {T : List Ev} {F : Nat → Prop} (h : Sk w b sB T F) (hT : T.length ≤ 1600000000000) (hl : ∀ k, F k → B ≤ k) (hB : B ≤ w.heap.size) :
    Calls Try.prog 7 #[.pointer (some ⟨b, 0, none⟩), .int .i64 1, .int .i64 5, .int .i64 3, .string ⟨#[]⟩] w fun e w' => e = .returned (.tuple #[.int .i64 0, .bool false, .int .i64 162]) ∧ ∃ F', Sk w' b sB (T ++ []) F' ∧ (∀ k, F' k → B ≤ k) ∧ Below B w w' := by
  have h1 := h.put hT 1 5 3 ⟨#[]⟩
  rw [pe_5, adm_5, ans_5, news_5, nxt_5] at h1
  exact h1.mono fun e w' h2 => ⟨h2.1, h2.2.low hl hB⟩
theorem pe_6 : pe sB 1 5 0 ⟨#[120]⟩ = 163 := by decide
theorem adm_6 : adm sB 1 5 0 ⟨#[120]⟩ = false := by decide
theorem ans_6 : ans sB 1 5 0 ⟨#[120]⟩ = 0 := by decide
theorem news_6 : news sB 1 5 0 ⟨#[120]⟩ = [] := by unfold news; rw [adm_6]; rfl
theorem nxt_6 : nxt sB 1 5 0 ⟨#[120]⟩ = sB := by unfold nxt; rw [adm_6]; rfl
theorem put_6 {w : World} {b B : Nat} {T : List Ev} {F : Nat → Prop} (h : Sk w b sB T F) (hT : T.length ≤ 1600000000000) (hl : ∀ k, F k → B ≤ k) (hB : B ≤ w.heap.size) :
    Calls Try.prog 7 #[.pointer (some ⟨b, 0, none⟩), .int .i64 1, .int .i64 5, .int .i64 0, .string ⟨#[120]⟩] w fun e w' => e = .returned (.tuple #[.int .i64 0, .bool false, .int .i64 163]) ∧ ∃ F', Sk w' b sB (T ++ []) F' ∧ (∀ k, F' k → B ≤ k) ∧ Below B w w' := by
  have h1 := h.put hT 1 5 0 ⟨#[120]⟩
  rw [pe_6, adm_6, ans_6, news_6, nxt_6] at h1
  exact h1.mono fun e w' h2 => ⟨h2.1, h2.2.low hl hB⟩
theorem one_of {Y : List Az} (h : Ls sB Y) : ∃ ad cap, Y = [⟨1, 5, ad, cap, [⟨#[97]⟩]⟩] := by
  have hj : ∀ y ∈ Y, y.job = 1 ∧ y.bdg = 5 ∧ y.pcs = [⟨#[97]⟩] := fun y hy => by
    have h1 := h.at_ y hy
    have h2 := (h.ok y hy).2.2.1
    unfold sB at h1
    by_cases e : y.job = 1
    · rw [if_pos e] at h1
      injection h1 with h3 h4
      exact ⟨e, h3.symm, h4.symm⟩
    · rw [if_neg e] at h1
      injection h1 with h3 h4
      omega
  obtain ⟨y, hy, e⟩ := h.all 1 (by decide)
  match Y, hj, h.rise, hy with
  | [x], hj, _, _ =>
    obtain ⟨h1, h2, h3⟩ := hj x (.head _)
    obtain ⟨xj, xb, ad, cap, ps⟩ := x
    simp only at h1 h2 h3
    subst h1; subst h2; subst h3
    exact ⟨ad, cap, rfl⟩
  | x :: z :: l, hj, hr, _ =>
    have h1 := (List.pairwise_cons.1 hr).1 z (.head _)
    have h2 := (hj x (.head _)).1
    have h3 := (hj z (.tail _ (.head _))).1
    omega
def mPut : Ms := ⟨6, 0, 0, 1, 4, 0, 0, 0, 0, ⟨#[]⟩, ⟨#[]⟩⟩
theorem mput_ok : Wr.check mPut = 0 := by decide
theorem mput_dec : Wr.decode limP ⟨#[6, 1, 4, 0, 0]⟩ = (mPut, 0) := by
  refine Wr.decode_there lim_p (by decide) mput_ok (by decide) ?_
  show [6, 1, 4, 0, 0] = Pk.enc 6 ++ (Pk.enc 1 ++ (Pk.enc 4 ++ (Pk.enc 0 ++ ((Pk.enc 0 ++ []) ++ []))))
  rw [Pk.enc_lt (n := 6) (by decide), Pk.enc_lt (n := 1) (by decide), Pk.enc_lt (n := 4) (by decide), Pk.enc_lt (n := 0) (by decide)]; rfl
theorem mput_rep : encB (rep sB mPut) = ⟨#[16, 1, 4]⟩ := by
  have h1 : rep sB mPut = ⟨16, 0, 0, 1, 4, 0, 0, 0, 0, ⟨#[]⟩, ⟨#[]⟩⟩ := if_pos pe_3
  rw [h1]
  unfold encB
  rw [if_pos (by decide)]
  have : Wr.bytes ⟨16, 0, 0, 1, 4, 0, 0, 0, 0, ⟨#[]⟩, ⟨#[]⟩⟩ = [16, 1, 4] := by
    show Pk.enc 16 ++ (Pk.enc 1 ++ (Pk.enc 4 ++ [])) = _
    rw [Pk.enc_lt (n := 16) (by decide), Pk.enc_lt (n := 1) (by decide), Pk.enc_lt (n := 4) (by decide)]; rfl
  rw [this]
theorem hear_1 {w : World} {b B : Nat} {T : List Ev} {F : Nat → Prop} (h : Sk w b sB T F) (hT : T.length ≤ 1600000000000) (hl : ∀ k, F k → B ≤ k) (hB : B ≤ w.heap.size) :
    Calls Try.prog 11 #[.pointer (some ⟨b, 0, none⟩), .agg #[.int .i64 2, .int .i64 1], .string ⟨#[6, 1, 4, 0, 0]⟩] w fun e w' => ∃ g, e = .returned (.slice (some ⟨g, 0, none⟩) 1 1) ∧ w'.heap[g]? = some (.cells #[.int .i64 0, .int .i64 1, .int .i64 0, .int .i64 2, .int .i64 1, .string ⟨#[16, 1, 4]⟩] 50 (0, 0)) ∧ Mv F w w' ∧ ∃ F', Sk w' b sB T F' ∧ (∀ k, F' k → B ≤ k) ∧ Below B w w' := by
  have hp : isPut ⟨#[6, 1, 4, 0, 0]⟩ = true := by unfold isPut; rw [mput_dec]; rfl
  have hmd : hm ⟨#[6, 1, 4, 0, 0]⟩ = mPut := by unfold hm; rw [mput_dec]
  have h1 := h.hear hT 2 1 ⟨#[6, 1, 4, 0, 0]⟩ (by decide)
  refine h1.mono fun e w' h2 => ?_
  obtain ⟨hg, h3⟩ := h2
  have e1 : hst sB ⟨#[6, 1, 4, 0, 0]⟩ = sB := by unfold hst; rw [hp, if_pos rfl, hmd]; exact nxt_3
  have e2 : hnw sB ⟨#[6, 1, 4, 0, 0]⟩ = [] := by unfold hnw; rw [hp, if_pos rfl, hmd]; exact news_3
  rw [e1, e2, List.append_nil] at hg
  rcases h3 with ⟨h3, _⟩ | ⟨_, g, he, hgs, hgb, hM⟩
  · rw [hp] at h3; cases h3
  · rw [hmd, mput_rep] at hgb
    exact ⟨g, he, hgb, hM, hg.low hl hB⟩
set_option maxHeartbeats 4000000 in
theorem awake_any (w : World) : Calls Try.prog 6 #[] w fun e w' => e = .returned (.bool true) ∧ Below w.heap.size w w' := by
  go_enter Try.func6, Try.ntmps6
  go_wp2_with fail
  refine (new_st w).mono ?_
  rintro e w0 ⟨b, F0, rfl, hS0, hB0, hL0⟩
  have HS0 := hide hS0
  have HB0 := hide hB0
  have HL0 := hide hL0
  clear hS0 hB0 hL0
  have hptr : ∀ w1 : World, (binOp .eql 24 (.pointer (some ⟨b, 0, none⟩)) (.pointer none)).run Try.prog w1 = .ok (.bool false) w1 := fun _ => by kernel_rfl
  go_wp2_with fail
  refine (put_1 HS0.out (by decide) HL0.out HB0.out.size).mono ?_
  rintro e w1 ⟨rfl, F1, hS1, hL1, hB1⟩
  have HS1 := hide hS1
  have HB1 := hide (HB0.out.trans hB1)
  have HL1 := hide hL1
  clear hS1 hB1 hL1
  go_wp2_with fail
  refine (put_2 HS1.out (by decide) HL1.out HB1.out.size).mono ?_
  rintro e w2 ⟨rfl, F2, hS2, hL2, hB2⟩
  have HS2 := hide hS2
  have HB2 := hide (HB1.out.trans hB2)
  have HL2 := hide hL2
  clear hS2 hB2 hL2
  go_wp2_with fail
  refine (put_3 HS2.out (by decide) HL2.out HB2.out.size).mono ?_
  rintro e w3 ⟨rfl, F3, hS3, hL3, hB3⟩
  have HS3 := hide hS3
  have HB3 := hide (HB2.out.trans hB3)
  have HL3 := hide hL3
  clear hS3 hB3 hL3
  go_wp2_with fail
  refine (put_4 HS3.out (by decide) HL3.out HB3.out.size).mono ?_
  rintro e w4 ⟨rfl, F4, hS4, hL4, hB4⟩
  have HS4 := hide hS4
  have HB4 := hide (HB3.out.trans hB4)
  have HL4 := hide hL4
  clear hS4 hB4 hL4
  go_wp2_with fail
  refine (put_5 HS4.out (by decide) HL4.out HB4.out.size).mono ?_
  rintro e w5 ⟨rfl, F5, hS5, hL5, hB5⟩
  have HS5 := hide hS5
  have HB5 := hide (HB4.out.trans hB5)
  have HL5 := hide hL5
  clear hS5 hB5 hL5
  go_wp2_with fail
  refine (put_6 HS5.out (by decide) HL5.out HB5.out.size).mono ?_
  rintro e w6 ⟨rfl, F6, hS6, hL6, hB6⟩
  have HS6 := hide hS6
  have HB6 := hide (HB5.out.trans hB6)
  have HL6 := hide hL6
  clear hS6 hB6 hL6
  go_wp2_with fail
  refine HS6.out.arts.mono ?_
  rintro e w7 ⟨ad, g, cap, Y, rfl, hR, hLs, hP, hg, hB⟩
  obtain ⟨yad, ycap, rfl⟩ := one_of hLs
  have hsz6 := HB6.out.size
  have hgs := hg (by simp)
  have had := hR.at_ (by simp)
  subst had
  obtain ⟨c0, c1, c2⟩ := hR.three0 (i := 0) (by simp)
  have hrow := hP _ (.head _)
  simp only [List.length_singleton] at hrow
  rcases own_form hrow with ⟨_, h0⟩ | ⟨g2, cap2, hv, hg2⟩
  · cases h0
  injection hv with hv1 _ hv2
  subst hv1; subst hv2
  have hg2s : w6.heap.size ≤ g2 := (hrow.lt g2 rfl).1
  have d0 : w7.cell? ⟨g2, 0, none⟩ = some (.string ⟨#[97]⟩) := by
    have := hrow.cells (g := g2) rfl 0 _ rfl
    rw [Addr.add_lit] at this
    exact this
  have HS7 := hide (HS6.out.below hB)
  have HB7 := hide (HB6.out.trans (hB.mono hsz6))
  have HLT := hide HS6.out.lt
  have hgl : g < w7.heap.size := World.block_lt_of_cell? _ _ c0
  simp only [List.getElem_cons_zero, Nat.zero_mul, Nat.zero_add] at c0 c1 c2
  have HC0 := hide c0
  have HC1 := hide c1
  have HC2 := hide c2
  have HD0 := hide d0
  clear hR hLs hP hg hB hrow c0 c1 c2 d0
  go_wp2_with fail
  refine (hear_1 HS7.out (by decide) HL6.out HB7.out.size).mono ?_
  rintro e w8 ⟨g3, rfl, hg3, hM, F8, hS8, hL8, hB8⟩
  have k0 : w8.cell? ⟨g, 0, none⟩ = some (.int .i64 1) := (World.cell?_of_block (hM.block g hgl (fun hf => by have := HLT.out _ hf; omega))).trans HC0.out
  have k1 : w8.cell? ⟨g, 1, none⟩ = some (.int .i64 5) := (World.cell?_of_block (hM.block g hgl (fun hf => by have := HLT.out _ hf; omega))).trans HC1.out
  have k2 : w8.cell? ⟨g, 2, none⟩ = some (.slice (some ⟨g2, 0, none⟩) 1 ycap) := (World.cell?_of_block (hM.block g hgl (fun hf => by have := HLT.out _ hf; omega))).trans HC2.out
  have k3 : w8.cell? ⟨g2, 0, none⟩ = some (.string ⟨#[97]⟩) := (World.cell?_of_block (hM.block g2 hg2 (fun hf => by have := HLT.out _ hf; omega))).trans HD0.out
  have k4 : w8.cell? ⟨g3, 5, none⟩ = some (.string ⟨#[16, 1, 4]⟩) := by simp [World.cell?, hg3]
  have HT := hide hS8.told
  have HB8 := hide (HB7.out.trans hB8)
  have HL8 := hide hL8
  clear hg3 hM hS8 hL8 hB8
  go_wp2_with fail
  refine HT.out.mono ?_
  rintro e w9 ⟨tv, F9, rfl, ht, hS9, hM9, _⟩
  obtain ⟨tad, tcap, rfl⟩ := own_slice ht
  have HM9 := hide hM9
  clear ht hS9 hM9
  go_wp2_with fail
  go_ret
  refine ⟨rfl, ?_⟩
  have h1 := HB8.out
  exact ⟨HM9.out.os.trans h1.os, HM9.out.tape.trans h1.tape, HM9.out.output.trans h1.output, Nat.le_trans h1.size HM9.out.size, fun k hk => (HM9.out.block k (Nat.lt_of_lt_of_le hk h1.size) (fun hf => by have := HL8.out k hf; omega)).trans (h1.block k hk)⟩
end Go.Proofs.Ytfmanndadjdpbaa.K
end
