import Derived.Test.YtapcmmljdpallaaSkK
namespace Go.Proofs.Ytapcmmljdpallaa.K
open Go.RowKit Go.MapKept Go.Shelf
open Wr (Ms)
set_option maxRecDepth 20000

/-- the artefacts of a sink, by their jobs -/
structure Ls (s : St) (Y : List Az) : Prop where
  rise : Rise Y
  ok : ∀ y ∈ Y, 1 ≤ y.job ∧ y.job ≤ 8 ∧ 1 ≤ y.bdg ∧ y.bdg ≤ 1099511627776 ∧ y.pcs.length ≤ 16
  at_ : ∀ y ∈ Y, s y.job = (y.bdg, y.pcs)
  all : ∀ j, 1 ≤ (s j).1 → ∃ y ∈ Y, y.job = j
theorem Sb.ls {w : World} {b m : Nat} {A : List Az} {tv : Value} {T : List Ev} {j : Int} (h : Sb w b m A tv T j) : Ls (stA A) A :=
  ⟨h.map.1, h.ok, fun y hy => by unfold stA; rw [fnd_at h.map.1 hy], fun j hj => by
    have := fnd_mem ((has_bdg h j).2 hj)
    exact ⟨_, this.1, this.2⟩⟩
theorem Ls.of_cl {s : St} {A Y : List Az} (h : Ls s A) (e : Y.map cl = A.map cl) : Ls s Y := by
  have hm : ∀ y ∈ Y, ∃ a ∈ A, a.job = y.job ∧ a.bdg = y.bdg ∧ a.pcs = y.pcs := fun y hy => by
    have h1 : cl y ∈ A.map cl := by rw [← e]; exact List.mem_map.2 ⟨y, hy, rfl⟩
    obtain ⟨a, ha, e1⟩ := List.mem_map.1 h1
    simp only [cl, Az.mk.injEq, true_and] at e1
    exact ⟨a, ha, e1⟩
  have hm2 : ∀ a ∈ A, ∃ y ∈ Y, y.job = a.job := fun a ha => by
    have h1 : cl a ∈ Y.map cl := by rw [e]; exact List.mem_map.2 ⟨a, ha, rfl⟩
    obtain ⟨y, hy, e1⟩ := List.mem_map.1 h1
    simp only [cl, Az.mk.injEq, true_and] at e1
    exact ⟨y, hy, e1.1⟩
  refine ⟨?_, fun y hy => ?_, fun y hy => ?_, fun j hj => ?_⟩
  · have h1 := rise_cl h.rise
    rw [← e] at h1
    exact (List.pairwise_map (f := cl) (R := fun a b => a.job < b.job)).1 h1
  · obtain ⟨a, ha, e1, e2, e3⟩ := hm y hy
    rw [← e1, ← e2, ← e3]
    exact h.ok a ha
  · obtain ⟨a, ha, e1, e2, e3⟩ := hm y hy
    rw [← e1, ← e2, ← e3]
    exact h.at_ a ha
  · obtain ⟨a, ha, e1⟩ := h.all j hj
    obtain ⟨y, hy, e2⟩ := hm2 a ha
    exact ⟨y, hy, e2.trans e1⟩
/-- Artefacts -/
theorem Sk.arts {w : World} {b : Nat} {s : St} {T : List Ev} {F : Nat → Prop} (h : Sk w b s T F) :
    Calls Try.prog 11 #[.pointer (some ⟨b, 0, none⟩)] w fun e w' => ∃ ad g cap Y, e = .returned (.slice ad Y.length cap) ∧ Rs w' ad g 0 Y ∧ Ls s Y ∧ (∀ y ∈ Y, w'.ownsRow w.heap.size 9 1 y.sl y.pcs.length (tcs y.pcs)) ∧ (0 < Y.length → w.heap.size ≤ g) ∧ Below w.heap.size w w' := by
  obtain ⟨m, A, tv, h, rfl, rfl⟩ := h
  refine (arts_any h).mono ?_
  rintro e w' ⟨ad, g, cap, Y, rfl, h1, h2, h3, h4, h5⟩
  exact ⟨ad, g, cap, Y, rfl, h1, h.ls.of_cl h2, h3, h4, h5⟩
theorem Sk.st {w : World} {b : Nat} {s : St} {T : List Ev} {F : Nat → Prop} (h : Sk w b s T F) (j : Int) : (1 ≤ j ∧ j ≤ 8 ∧ 1 ≤ (s j).1 ∧ (s j).1 ≤ 1099511627776 ∧ (s j).2.length ≤ 16) ∨ s j = (0, []) := by
  obtain ⟨m, A, tv, h, rfl, rfl⟩ := h
  unfold stA
  cases hh : has j A with
  | true =>
    have h1 := fnd_mem hh
    have h2 := h.ok _ h1.1
    rw [h1.2] at h2
    exact .inl h2
  | false => rw [fnd_none hh]; exact .inr rfl
theorem Sk.told_len {w : World} {b : Nat} {s : St} {T : List Ev} {F : Nat → Prop} (h : Sk w b s T F) : ∃ tv : Value, w.ownsRow 0 45 13 tv T.length (ecs T) := by
  obtain ⟨m, A, tv, h, _, _⟩ := h
  exact ⟨tv, h.told⟩

/-- what is said to a put -/
def rep (s : St) (m : Ms) : Ms :=
  if pe s m.jo m.ba m.ix m.tx = 161 then ⟨16, 0, 0, m.jo, m.ba, 0, 0, 0, 0, ⟨#[]⟩, ⟨#[]⟩⟩ else ⟨15, 0, 0, m.jo, m.ba, 0, cnt (nxt s m.jo m.ba m.ix m.tx) m.jo m.ba, 0, 0, ⟨#[]⟩, ⟨#[]⟩⟩
theorem results_msg1 {fn : Func} {p : Tmp} (h : fn.results = #[.cell p 61]) (tmps : Array Value) (w : World) (g : Nat) (cs : Array Value) (hp : tmps.getD p undef = .pointer (some ⟨g, 0, none⟩)) (hg : w.heap[g]? = some (.cells cs 61 (0, 0))) (hc : cs.size = 11) :
    (results fn tmps).run Try.prog w = .ok (.agg cs) w := by
  have he := run_loadVar_row (P := Try.prog) w g 61 61 cs (0, 0) _ hg Try.underlying61 rfl (by rw [hc]; kernel_rfl)
  rw [results_c1 h, hp]
  simp [asAddr, he]
theorem elev_of {w : World} {B : Nat} {c0 c1 c2 c3 c4 c5 c6 c7 c8 c9 c10 : Value} (h : w.heap[B]? = some (.cells #[c0, c1, c2, c3, c4, c5, c6, c7, c8, c9, c10] 61 (0, 0))) : w.cell? ⟨B, 0, none⟩ = some c0 ∧ w.cell? ⟨B, 1, none⟩ = some c1 ∧ w.cell? ⟨B, 2, none⟩ = some c2 ∧ w.cell? ⟨B, 3, none⟩ = some c3 ∧ w.cell? ⟨B, 4, none⟩ = some c4 ∧ w.cell? ⟨B, 5, none⟩ = some c5 ∧ w.cell? ⟨B, 6, none⟩ = some c6 ∧ w.cell? ⟨B, 7, none⟩ = some c7 ∧ w.cell? ⟨B, 8, none⟩ = some c8 ∧ w.cell? ⟨B, 9, none⟩ = some c9 ∧ w.cell? ⟨B, 10, none⟩ = some c10 ∧ w.frozen? ⟨B, 0, none⟩ = false ∧ w.frozen? ⟨B, 1, none⟩ = false ∧ w.frozen? ⟨B, 2, none⟩ = false ∧ w.frozen? ⟨B, 3, none⟩ = false ∧ w.frozen? ⟨B, 4, none⟩ = false ∧ w.frozen? ⟨B, 5, none⟩ = false ∧ w.frozen? ⟨B, 6, none⟩ = false ∧ w.frozen? ⟨B, 7, none⟩ = false ∧ w.frozen? ⟨B, 8, none⟩ = false ∧ w.frozen? ⟨B, 9, none⟩ = false ∧ w.frozen? ⟨B, 10, none⟩ = false := by
  simp [World.cell?, World.frozen?, h]
theorem elev_set {w : World} {B : Nat} {c0 c1 c2 c3 c4 c5 c6 c7 c8 c9 c10 : Value} (h : w.heap[B]? = some (.cells #[c0, c1, c2, c3, c4, c5, c6, c7, c8, c9, c10] 61 (0, 0))) (x0 x1 x2 x3 x4 x5 x6 x7 x8 x9 x10 : Value) : (((((((((((w.setCell ⟨B, 0, none⟩ x0).setCell ⟨B, 1, none⟩ x1).setCell ⟨B, 2, none⟩ x2).setCell ⟨B, 3, none⟩ x3).setCell ⟨B, 4, none⟩ x4).setCell ⟨B, 5, none⟩ x5).setCell ⟨B, 6, none⟩ x6).setCell ⟨B, 7, none⟩ x7).setCell ⟨B, 8, none⟩ x8).setCell ⟨B, 9, none⟩ x9).setCell ⟨B, 10, none⟩ x10).heap[B]? = some (.cells #[x0, x1, x2, x3, x4, x5, x6, x7, x8, x9, x10] 61 (0, 0)) := by
  simp [World.setCell, Array.getElem?_modify, h]
theorem mo1 {w0 w : World} {B i : Nat} (h : Mv (fun k => k = B) w0 w) (x : Value) : Mv (fun k => k = B) w0 (w.setCell ⟨B, i, none⟩ x) := h.grown (grown_set w B i x) (fun k e => .inl (by cases e; rfl))
theorem mo_set {w0 w : World} {B : Nat} (h : Mv (fun k => k = B) w0 w) (x0 x1 x2 x3 x4 x5 x6 x7 x8 x9 x10 : Value) : Mv (fun k => k = B) w0 (((((((((((w.setCell ⟨B, 0, none⟩ x0).setCell ⟨B, 1, none⟩ x1).setCell ⟨B, 2, none⟩ x2).setCell ⟨B, 3, none⟩ x3).setCell ⟨B, 4, none⟩ x4).setCell ⟨B, 5, none⟩ x5).setCell ⟨B, 6, none⟩ x6).setCell ⟨B, 7, none⟩ x7).setCell ⟨B, 8, none⟩ x8).setCell ⟨B, 9, none⟩ x9).setCell ⟨B, 10, none⟩ x10) := (mo1 (mo1 (mo1 (mo1 (mo1 (mo1 (mo1 (mo1 (mo1 (mo1 (mo1 h x0) x1) x2) x3) x4) x5) x6) x7) x8) x9) x10)
def So (w1 : World) (B : Nat) (w : World) : Prop := Mv (fun k => k = B) w1 w ∧ ∃ c0 c1 c2 c3 c4 c5 c6 c7 c8 c9 c10, w.heap[B]? = some (.cells #[c0, c1, c2, c3, c4, c5, c6, c7, c8, c9, c10] 61 (0, 0))
theorem So.below {w1 w w' : World} {B : Nat} (h : So w1 B w) (hb : Below w.heap.size w w') (hB : B < w1.heap.size) : So w1 B w' := by
  obtain ⟨h1, c0, c1, c2, c3, c4, c5, c6, c7, c8, c9, c10, h2⟩ := h
  exact ⟨h1.below hb, c0, c1, c2, c3, c4, c5, c6, c7, c8, c9, c10, (hb.block B (Nat.lt_of_lt_of_le hB h1.size)).trans h2⟩
set_option maxHeartbeats 2000000 in
theorem reply_any {w : World} {b : Nat} {s : St} {T : List Ev} {F : Nat → Prop} (h : Sk w b s T F) (hT : T.length ≤ 1000000000) (m : Ms) :
    Calls Try.prog 16 #[.pointer (some ⟨b, 0, none⟩), .agg (msgC m)] w fun e w' => e = .returned (.agg (msgC (rep s m))) ∧ Gp F b (nxt s m.jo m.ba m.ix m.tx) (T ++ news s m.jo m.ba m.ix m.tx) w w' := by
  obtain ⟨k, se, nu, jo, ba, ix, co, rc, rb, tx, pr⟩ := m
  rw [show msgC (⟨k, se, nu, jo, ba, ix, co, rc, rb, tx, pr⟩ : Ms) = #[.int .i64 k, .int .i64 se, .int .i64 nu, .int .i64 jo, .int .i64 ba, .int .i64 ix, .int .i64 co, .int .i64 rc, .int .u64 (rb : Int), .string tx, .string pr] from rfl]
  have b2 := (below_alloc w (.cells (msgC ⟨k, se, nu, jo, ba, ix, co, rc, rb, tx, pr⟩) 61)).alloc (Nat.le_of_lt (by simp)) (.cells (msgC ⟨0, 0, 0, 0, 0, 0, 0, 0, 0, ⟨#[]⟩, ⟨#[]⟩⟩) 61)
  have HP := hide ((h.below b2).put hT jo ba ix tx)
  have HB := hide b2
  have HA : Hid (((w.alloc (.cells (msgC ⟨k, se, nu, jo, ba, ix, co, rc, rb, tx, pr⟩) 61)).alloc (.cells (msgC ⟨0, 0, 0, 0, 0, 0, 0, 0, 0, ⟨#[]⟩, ⟨#[]⟩⟩) 61)).heap[w.heap.size]? = some (.cells (msgC ⟨k, se, nu, jo, ba, ix, co, rc, rb, tx, pr⟩) 61 (0, 0))) := hide (((below_alloc _ _).block _ (by simp)).trans (heap_alloc_new w _))
  have HR : Hid (((w.alloc (.cells (msgC ⟨k, se, nu, jo, ba, ix, co, rc, rb, tx, pr⟩) 61)).alloc (.cells (msgC ⟨0, 0, 0, 0, 0, 0, 0, 0, 0, ⟨#[]⟩, ⟨#[]⟩⟩) 61)).heap[w.heap.size + 1]? = some (.cells (msgC ⟨0, 0, 0, 0, 0, 0, 0, 0, 0, ⟨#[]⟩, ⟨#[]⟩⟩) 61 (0, 0))) := hide (by
    have := heap_alloc_new (w.alloc (.cells (msgC ⟨k, se, nu, jo, ba, ix, co, rc, rb, tx, pr⟩) 61)) (.cells (msgC ⟨0, 0, 0, 0, 0, 0, 0, 0, 0, ⟨#[]⟩, ⟨#[]⟩⟩) 61)
    rw [World.size_alloc] at this
    exact this)
  have hs2 : ((w.alloc (.cells (msgC ⟨k, se, nu, jo, ba, ix, co, rc, rb, tx, pr⟩) 61)).alloc (.cells (msgC ⟨0, 0, 0, 0, 0, 0, 0, 0, 0, ⟨#[]⟩, ⟨#[]⟩⟩) 61)).heap.size = w.heap.size + 2 := by simp
  have HLT := hide h.lt
  unfold msgC at HP HB HA HR hs2
  clear h b2
  go_enter Try.func16, Try.ntmps16
  go_wp2_with fail
  generalize (w.alloc (.cells #[.int .i64 k, .int .i64 se, .int .i64 nu, .int .i64 jo, .int .i64 ba, .int .i64 ix, .int .i64 co, .int .i64 rc, .int .u64 (rb : Int), .string tx, .string pr] 61)).alloc (.cells #[.int .i64 0, .int .i64 0, .int .i64 0, .int .i64 0, .int .i64 0, .int .i64 0, .int .i64 0, .int .i64 0, .int .u64 0, .string ⟨#[]⟩, .string ⟨#[]⟩] 61) = W at *
  refine HP.out.mono ?_
  rintro e w1 ⟨rfl, hg⟩
  obtain ⟨F', hS, hM, hF⟩ := hg
  have HS := hide hS
  have HM := hide hM
  have HF := hide hF
  have hA1 := (hM.block _ (by omega) (fun hf => by have := HLT.out _ hf; omega)).trans HA.out
  have hR1 := (hM.block _ (by omega) (fun hf => by have := HLT.out _ hf; omega)).trans HR.out
  have hs1 := hM.size
  have a3 : w1.cell? ⟨w.heap.size, 3, none⟩ = some (.int .i64 jo) := by simp [World.cell?, hA1]
  have a4 : w1.cell? ⟨w.heap.size, 4, none⟩ = some (.int .i64 ba) := by simp [World.cell?, hA1]
  have HR1 := hide hR1
  have HA1 := hide hA1
  have hNF : ¬ F' (w.heap.size + 1) := fun hf => (hF _ hf).elim (fun h => by have := HLT.out _ h; omega) (fun h => by omega)
  have HN := hide hNF
  clear hS hM hF HA HR HP hA1 hR1 hNF
  by_cases hp : pe s jo ba ix tx = 161
  · have hp1 : (pe s jo ba ix tx == 161) = true := by simpa using hp
    have HE : Hid (rep s ⟨k, se, nu, jo, ba, ix, co, rc, rb, tx, pr⟩ = ⟨16, 0, 0, jo, ba, 0, 0, 0, 0, ⟨#[]⟩, ⟨#[]⟩⟩) := hide (if_pos hp)
    clear hp
    obtain ⟨q0, q1, q2, q3, q4, q5, q6, q7, q8, q9, q10, z0, z1, z2, z3, z4, z5, z6, z7, z8, z9, z10⟩ := elev_of HR1.out
    go_wp2_with fail
    (try simp only [Exit.inBlock, Exit.then])
    refine bodyPost_ret (results_msg1 rfl _ _ (w.heap.size + 1) #[.int .i64 16, .int .i64 0, .int .i64 0, .int .i64 jo, .int .i64 ba, .int .i64 0, .int .i64 0, .int .i64 0, .int .u64 0, .string ⟨#[]⟩, .string ⟨#[]⟩] rfl ?_ rfl) rfl ⟨by rw [HE.out]; rfl, ?_⟩
    · simp [World.setCell, Array.getElem?_modify, HR1.out]
    · refine ⟨F', HS.out.keep fun k hk => ?_, ?_, fun k hk => ?_⟩
      · have : w.heap.size + 1 ≠ k := fun e => HN.out (by rw [e]; exact hk)
        simp [World.setCell, Array.getElem?_modify, this]
      · exact ((Mv.of_below HB.out).trans HM.out (fun _ h => .inl h)).trans (mo_set (Mv.refl _ w1) _ _ _ _ _ _ _ _ _ _ _) (fun k e => .inr (by omega))
      · rcases HF.out k hk with h | h
        · exact .inl h
        · exact .inr (by omega)
  · have hp1 : (pe s jo ba ix tx == 161) = false := by simpa using hp
    have HE : Hid (rep s ⟨k, se, nu, jo, ba, ix, co, rc, rb, tx, pr⟩ = ⟨15, 0, 0, jo, ba, 0, cnt (nxt s jo ba ix tx) jo ba, 0, 0, ⟨#[]⟩, ⟨#[]⟩⟩) := hide (if_neg hp)
    clear hp
    have HCt : Hid (∀ w', So w1 (w.heap.size + 1) w' → Calls Try.prog 17 #[.pointer (some ⟨b, 0, none⟩), .int .i64 jo, .int .i64 ba] w' fun e w'' => e = .returned (.int .i64 (cnt (nxt s jo ba ix tx) jo ba)) ∧ Below w'.heap.size w' w'') := hide fun w' hw => (HS.out.keep (w' := w') fun k hk => hw.1.block k (HS.out.lt k hk) (fun e => HN.out (by rw [← e]; exact hk))).count jo ba
    have HCe : Hid (∀ w', So w1 (w.heap.size + 1) w' → w'.cell? ⟨w.heap.size, 3, none⟩ = some (.int .i64 jo) ∧ w'.cell? ⟨w.heap.size, 4, none⟩ = some (.int .i64 ba)) := hide fun w' hw => by
      have h1 := (hw.1.block w.heap.size (by omega) (by omega)).trans HA1.out
      simp [World.cell?, h1]
    have HLR : Hid (w.heap.size + 1 < w1.heap.size) := hide (by omega)
    have HS0 : Hid (So w1 (w.heap.size + 1) w1.drew) := hide ⟨⟨rfl, rfl, rfl, Nat.le_refl _, fun _ _ _ => rfl⟩, _, _, _, _, _, _, _, _, _, _, _, HR1.out⟩
    go_wp2_with fail
    refine wp_region_held_drew (S := fun w' => So w1 (w.heap.size + 1) w') (by kernel_rfl) (HS0.out) (fun hHeld => ?_)
    refine wpAnyH_take (i := 0) (v := .pointer (some ⟨w.heap.size, 3, none⟩)) rfl (by kernel_rfl) (by kernel_rfl) (by kernel_rfl) (fun _ _ _ h => h) (Or.inl ⟨by kernel_rfl, fun w1 hSw => by clear hHeld; obtain ⟨k3, k4⟩ := HCe.out _ hSw; go_simp⟩) hHeld ?_
    try simp only [Act.put]
    try simp only [List.getElem_toArray]
    try simp only [List.getElem_cons_succ]
    try simp only [List.getElem_cons_zero]
    try simp only [List.setIfInBounds_toArray]
    try simp only [List.set_cons_succ, List.set_cons_zero]
    refine wpAnyH_take (i := 1) (v := .int .i64 jo) rfl (by kernel_rfl) (by kernel_rfl) (by kernel_rfl) (fun _ _ _ h => h) (Or.inl ⟨by kernel_rfl, fun w1 hSw => by clear hHeld; obtain ⟨k3, k4⟩ := HCe.out _ hSw; go_simp⟩) hHeld ?_
    try simp only [Act.put]
    try simp only [List.getElem_toArray]
    try simp only [List.getElem_cons_succ]
    try simp only [List.getElem_cons_zero]
    try simp only [List.setIfInBounds_toArray]
    try simp only [List.set_cons_succ, List.set_cons_zero]
    refine wpAnyH_take (i := 2) (v := .pointer (some ⟨w.heap.size, 4, none⟩)) rfl (by kernel_rfl) (by kernel_rfl) (by kernel_rfl) (fun _ _ _ h => h) (Or.inl ⟨by kernel_rfl, fun w1 hSw => by clear hHeld; obtain ⟨k3, k4⟩ := HCe.out _ hSw; go_simp⟩) hHeld ?_
    try simp only [Act.put]
    try simp only [List.getElem_toArray]
    try simp only [List.getElem_cons_succ]
    try simp only [List.getElem_cons_zero]
    try simp only [List.setIfInBounds_toArray]
    try simp only [List.set_cons_succ, List.set_cons_zero]
    refine wpAnyH_take (i := 3) (v := .int .i64 ba) rfl (by kernel_rfl) (by kernel_rfl) (by kernel_rfl) (fun _ _ _ h => h) (Or.inl ⟨by kernel_rfl, fun w1 hSw => by clear hHeld; obtain ⟨k3, k4⟩ := HCe.out _ hSw; go_simp⟩) hHeld ?_
    try simp only [Act.put]
    try simp only [List.getElem_toArray]
    try simp only [List.getElem_cons_succ]
    try simp only [List.getElem_cons_zero]
    try simp only [List.setIfInBounds_toArray]
    try simp only [List.set_cons_succ, List.set_cons_zero]
    refine wpAnyH_take (i := 4) (v := .pointer (some ⟨b, 0, none⟩)) rfl (by kernel_rfl) (by kernel_rfl) (by kernel_rfl) (fun _ _ _ h => h) (Or.inl ⟨by kernel_rfl, fun w1 hSw => by clear hHeld; obtain ⟨k3, k4⟩ := HCe.out _ hSw; go_simp⟩) hHeld ?_
    try simp only [Act.put]
    try simp only [List.getElem_toArray]
    try simp only [List.getElem_cons_succ]
    try simp only [List.getElem_cons_zero]
    try simp only [List.setIfInBounds_toArray]
    try simp only [List.set_cons_succ, List.set_cons_zero]
    refine wpAnyH_take (i := 5) (v := .pointer (some ⟨w.heap.size, 3, none⟩)) rfl (by kernel_rfl) (by kernel_rfl) (by kernel_rfl) (fun _ _ _ h => h) (Or.inl ⟨by kernel_rfl, fun w1 hSw => by clear hHeld; obtain ⟨k3, k4⟩ := HCe.out _ hSw; go_simp⟩) hHeld ?_
    try simp only [Act.put]
    try simp only [List.getElem_toArray]
    try simp only [List.getElem_cons_succ]
    try simp only [List.getElem_cons_zero]
    try simp only [List.setIfInBounds_toArray]
    try simp only [List.set_cons_succ, List.set_cons_zero]
    refine wpAnyH_take (i := 6) (v := .int .i64 jo) rfl (by kernel_rfl) (by kernel_rfl) (by kernel_rfl) (fun _ _ _ h => h) (Or.inl ⟨by kernel_rfl, fun w1 hSw => by clear hHeld; obtain ⟨k3, k4⟩ := HCe.out _ hSw; go_simp⟩) hHeld ?_
    try simp only [Act.put]
    try simp only [List.getElem_toArray]
    try simp only [List.getElem_cons_succ]
    try simp only [List.getElem_cons_zero]
    try simp only [List.setIfInBounds_toArray]
    try simp only [List.set_cons_succ, List.set_cons_zero]
    refine wpAnyH_take (i := 7) (v := .pointer (some ⟨w.heap.size, 4, none⟩)) rfl (by kernel_rfl) (by kernel_rfl) (by kernel_rfl) (fun _ _ _ h => h) (Or.inl ⟨by kernel_rfl, fun w1 hSw => by clear hHeld; obtain ⟨k3, k4⟩ := HCe.out _ hSw; go_simp⟩) hHeld ?_
    try simp only [Act.put]
    try simp only [List.getElem_toArray]
    try simp only [List.getElem_cons_succ]
    try simp only [List.getElem_cons_zero]
    try simp only [List.setIfInBounds_toArray]
    try simp only [List.set_cons_succ, List.set_cons_zero]
    refine wpAnyH_take (i := 8) (v := .int .i64 ba) rfl (by kernel_rfl) (by kernel_rfl) (by kernel_rfl) (fun _ _ _ h => h) (Or.inl ⟨by kernel_rfl, fun w1 hSw => by clear hHeld; obtain ⟨k3, k4⟩ := HCe.out _ hSw; go_simp⟩) hHeld ?_
    try simp only [Act.put]
    try simp only [List.getElem_toArray]
    try simp only [List.getElem_cons_succ]
    try simp only [List.getElem_cons_zero]
    try simp only [List.setIfInBounds_toArray]
    try simp only [List.set_cons_succ, List.set_cons_zero]
    refine wpAnyH_ready (rs := [9]) (by kernel_rfl) (by simp) ?_
    refine AllReadyH.cons rfl (fun K hK => ?_) AllReadyH.nil
    go_simp
    refine (HCt.out _ hHeld).mono ?_
    rintro e V1 ⟨rfl, hb⟩
    have HS1 := hide (So.below hHeld hb HLR.out)
    clear hb
    refine hK.out _ _ (HS1.out) (fun hHeld => ?_)
    clear hK K
    try simp only [Act.put]
    try simp only [List.getElem_toArray]
    try simp only [List.getElem_cons_succ]
    try simp only [List.getElem_cons_zero]
    try simp only [List.setIfInBounds_toArray]
    try simp only [List.set_cons_succ, List.set_cons_zero]
    refine wpAnyH_take (i := 10) (v := .agg #[.int .i64 15, .int .i64 0, .int .i64 0, .int .i64 jo, .int .i64 ba, .int .i64 0, .int .i64 (cnt (nxt s jo ba ix tx) jo ba), .int .i64 0, .int .u64 0, .string ⟨#[]⟩, .string ⟨#[]⟩]) rfl (by kernel_rfl) (by kernel_rfl) (by kernel_rfl) (fun _ _ _ h => h) (Or.inl ⟨by kernel_rfl, fun w1 hSw => by clear hHeld; obtain ⟨k3, k4⟩ := HCe.out _ hSw; go_simp⟩) hHeld ?_
    try simp only [Act.put]
    try simp only [List.getElem_toArray]
    try simp only [List.getElem_cons_succ]
    try simp only [List.getElem_cons_zero]
    try simp only [List.setIfInBounds_toArray]
    try simp only [List.set_cons_succ, List.set_cons_zero]
    refine wpAnyH_ready (rs := [11]) (by kernel_rfl) (by simp) ?_
    refine AllReadyH.cons rfl (fun K hK => ?_) AllReadyH.nil
    obtain ⟨hMo, c0, c1, c2, c3, c4, c5, c6, c7, c8, c9, c10, hB⟩ := hHeld
    obtain ⟨q0, q1, q2, q3, q4, q5, q6, q7, q8, q9, q10, z0, z1, z2, z3, z4, z5, z6, z7, z8, z9, z10⟩ := elev_of hB
    have HB2 := hide hB
    have HMo := hide hMo
    clear hB hMo
    go_simp
    have HB3 := hide (elev_set HB2.out (.int .i64 15) (.int .i64 0) (.int .i64 0) (.int .i64 jo) (.int .i64 ba) (.int .i64 0) (.int .i64 (cnt (nxt s jo ba ix tx) jo ba)) (.int .i64 0) (.int .u64 0) (.string ⟨#[]⟩) (.string ⟨#[]⟩))
    refine hK.out _ _ (⟨mo_set HMo.out _ _ _ _ _ _ _ _ _ _ _, _, _, _, _, _, _, _, _, _, _, _, HB3.out⟩) (fun hHeld => ?_)
    clear hK K
    try simp only [Act.put]
    try simp only [List.getElem_toArray]
    try simp only [List.getElem_cons_succ]
    try simp only [List.getElem_cons_zero]
    try simp only [List.setIfInBounds_toArray]
    try simp only [List.set_cons_succ, List.set_cons_zero]
    refine wpAnyH_done (by kernel_rfl) ?_ _
    have HMf := hide hHeld.1
    clear hHeld
    go_wp2_with fail
    (try simp only [Exit.inBlock, Exit.then])
    refine bodyPost_ret (results_msg1 rfl _ _ (w.heap.size + 1) _ rfl HB3.out rfl) rfl ⟨by rw [HE.out]; rfl, ?_⟩
    refine ⟨F', HS.out.keep fun k hk => HMf.out.block k (HS.out.lt k hk) (fun e => HN.out (by rw [← e]; exact hk)), ?_, fun k hk => ?_⟩
    · exact ((Mv.of_below HB.out).trans HM.out (fun _ h => .inl h)).trans HMf.out (fun k e => .inr (by omega))
    · rcases HF.out k hk with h | h
      · exact .inl h
      · exact .inr (by omega)
end Go.Proofs.Ytapcmmljdpallaa.K
