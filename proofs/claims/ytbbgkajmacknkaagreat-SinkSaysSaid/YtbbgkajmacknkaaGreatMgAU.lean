import Derived.Test.YtbbgkajmacknkaaGreatMgAT
import Derived.Test.YtbbgkajmacknkaaGreatMgAJ

section
namespace Go.Proofs.YtbbgkajmacknkaaGreat.K
open Go.RowKit Go.MapKept Go.Shelf
open Wr (Ms)
set_option maxRecDepth 20000

/-- the artefacts of a sink, by their jobs -/
structure Ls (s : St) (Y : List Az) : Prop where
  rise : Rise Y
  ok : ∀ y ∈ Y, 1 ≤ y.job ∧ y.job ≤ 8 ∧ 1 ≤ y.bdg ∧ y.bdg ≤ 1099511627776 ∧ y.pcs.length ≤ 16
  at_ : ∀ y ∈ Y, s y.job = (y.bdg, y.pcs)
  all : ∀ j, 1 ≤ (s j).1 → ∃ y ∈ Y, y.job = j
theorem Sb.ls {w : World} {b m : Nat} {A : List Az} {tv : Value} {T : List Ev} {j : Int} (h : Sb w b m A tv T j) : Ls (stA A) A :=
  ⟨h.map.1, h.ok, fun y hy => by unfold stA; rw [fnd_at h.map.1 hy], fun j hj => by
    have := fnd_mem ((has_bdg h j).2 hj)
    exact ⟨_, this.1, this.2⟩⟩
theorem Ls.of_cl {s : St} {A Y : List Az} (h : Ls s A) (e : Y.map cl = A.map cl) : Ls s Y := by
  have hm : ∀ y ∈ Y, ∃ a ∈ A, a.job = y.job ∧ a.bdg = y.bdg ∧ a.pcs = y.pcs := fun y hy => by
    have h1 : cl y ∈ A.map cl := by rw [← e]; exact List.mem_map.2 ⟨y, hy, rfl⟩
    obtain ⟨a, ha, e1⟩ := List.mem_map.1 h1
    simp only [cl, Az.mk.injEq, true_and] at e1
    exact ⟨a, ha, e1⟩
  have hm2 : ∀ a ∈ A, ∃ y ∈ Y, y.job = a.job := fun a ha => by
    have h1 : cl a ∈ Y.map cl := by rw [e]; exact List.mem_map.2 ⟨a, ha, rfl⟩
    obtain ⟨y, hy, e1⟩ := List.mem_map.1 h1
    simp only [cl, Az.mk.injEq, true_and] at e1
    exact ⟨y, hy, e1.1⟩
  refine ⟨?_, fun y hy => ?_, fun y hy => ?_, fun j hj => ?_⟩
  · have h1 := rise_cl h.rise
    rw [← e] at h1
    exact (List.pairwise_map (f := cl) (R := fun a b => a.job < b.job)).1 h1
  · obtain ⟨a, ha, e1, e2, e3⟩ := hm y hy
    rw [← e1, ← e2, ← e3]
    exact h.ok a ha
  · obtain ⟨a, ha, e1, e2, e3⟩ := hm y hy
    rw [← e1, ← e2, ← e3]
    exact h.at_ a ha
  · obtain ⟨a, ha, e1⟩ := h.all j hj
    obtain ⟨y, hy, e2⟩ := hm2 a ha
    exact ⟨y, hy, e2.trans e1⟩
/-- Artefacts -/
theorem Sk.arts {w : World} {b : Nat} {s : St} {T : List Ev} {F : Nat → Prop} (h : Sk w b s T F) :
    Calls Tryz.prog 7 #[.pointer (some ⟨b, 0, none⟩)] w fun e w' => ∃ ad g cap Y, e = .returned (.slice ad Y.length cap) ∧ Rs w' ad g 0 Y ∧ Ls s Y ∧ (∀ y ∈ Y, w'.ownsRow w.heap.size 9 1 y.sl y.pcs.length (tcs y.pcs)) ∧ (0 < Y.length → w.heap.size ≤ g) ∧ Below w.heap.size w w' := by
  obtain ⟨m, A, tv, h, rfl, rfl⟩ := h
  refine (arts_any h).mono ?_
  rintro e w' ⟨ad, g, cap, Y, rfl, h1, h2, h3, h4, h5⟩
  exact ⟨ad, g, cap, Y, rfl, h1, h.ls.of_cl h2, h3, h4, h5⟩
theorem Sk.st {w : World} {b : Nat} {s : St} {T : List Ev} {F : Nat → Prop} (h : Sk w b s T F) (j : Int) : (1 ≤ j ∧ j ≤ 8 ∧ 1 ≤ (s j).1 ∧ (s j).1 ≤ 1099511627776 ∧ (s j).2.length ≤ 16) ∨ s j = (0, []) := by
  obtain ⟨m, A, tv, h, rfl, rfl⟩ := h
  unfold stA
  cases hh : has j A with
  | true =>
    have h1 := fnd_mem hh
    have h2 := h.ok _ h1.1
    rw [h1.2] at h2
    exact .inl h2
  | false => rw [fnd_none hh]; exact .inr rfl
theorem Sk.told_len {w : World} {b : Nat} {s : St} {T : List Ev} {F : Nat → Prop} (h : Sk w b s T F) : ∃ tv : Value, w.ownsRow 0 76 13 tv T.length (ecs T) := by
  obtain ⟨m, A, tv, h, _, _⟩ := h
  exact ⟨tv, h.told⟩

/-- what is said to a put -/
def rep (s : St) (m : Ms) : Ms :=
  if pe s m.jo m.ba m.ix m.tx = 161 then ⟨16, 0, 0, m.jo, m.ba, 0, 0, 0, 0, ⟨#[]⟩, ⟨#[]⟩⟩ else ⟨15, 0, 0, m.jo, m.ba, 0, cnt (nxt s m.jo m.ba m.ix m.tx) m.jo m.ba, 0, 0, ⟨#[]⟩, ⟨#[]⟩⟩
theorem results_msg1 {fn : Func} {p : Tmp} (h : fn.results = #[.cell p 27]) (tmps : Array Value) (w : World) (g : Nat) (cs : Array Value) (hp : tmps.getD p undef = .pointer (some ⟨g, 0, none⟩)) (hg : w.heap[g]? = some (.cells cs 27 (0, 0))) (hc : cs.size = 11) :
    (results fn tmps).run Tryz.prog w = .ok (.agg cs) w := by
  have he := run_loadVar_row (P := Tryz.prog) w g 27 27 cs (0, 0) _ hg Tryz.underlying27 rfl (by rw [hc]; kernel_rfl)
  rw [results_c1 h, hp]
  simp [asAddr, he]
theorem elev_of {w : World} {B : Nat} {c0 c1 c2 c3 c4 c5 c6 c7 c8 c9 c10 : Value} (h : w.heap[B]? = some (.cells #[c0, c1, c2, c3, c4, c5, c6, c7, c8, c9, c10] 27 (0, 0))) : w.cell? ⟨B, 0, none⟩ = some c0 ∧ w.cell? ⟨B, 1, none⟩ = some c1 ∧ w.cell? ⟨B, 2, none⟩ = some c2 ∧ w.cell? ⟨B, 3, none⟩ = some c3 ∧ w.cell? ⟨B, 4, none⟩ = some c4 ∧ w.cell? ⟨B, 5, none⟩ = some c5 ∧ w.cell? ⟨B, 6, none⟩ = some c6 ∧ w.cell? ⟨B, 7, none⟩ = some c7 ∧ w.cell? ⟨B, 8, none⟩ = some c8 ∧ w.cell? ⟨B, 9, none⟩ = some c9 ∧ w.cell? ⟨B, 10, none⟩ = some c10 ∧ w.frozen? ⟨B, 0, none⟩ = false ∧ w.frozen? ⟨B, 1, none⟩ = false ∧ w.frozen? ⟨B, 2, none⟩ = false ∧ w.frozen? ⟨B, 3, none⟩ = false ∧ w.frozen? ⟨B, 4, none⟩ = false ∧ w.frozen? ⟨B, 5, none⟩ = false ∧ w.frozen? ⟨B, 6, none⟩ = false ∧ w.frozen? ⟨B, 7, none⟩ = false ∧ w.frozen? ⟨B, 8, none⟩ = false ∧ w.frozen? ⟨B, 9, none⟩ = false ∧ w.frozen? ⟨B, 10, none⟩ = false := by
  simp [World.cell?, World.frozen?, h]
theorem elev_set {w : World} {B : Nat} {c0 c1 c2 c3 c4 c5 c6 c7 c8 c9 c10 : Value} (h : w.heap[B]? = some (.cells #[c0, c1, c2, c3, c4, c5, c6, c7, c8, c9, c10] 27 (0, 0))) (x0 x1 x2 x3 x4 x5 x6 x7 x8 x9 x10 : Value) : (((((((((((w.setCell ⟨B, 0, none⟩ x0).setCell ⟨B, 1, none⟩ x1).setCell ⟨B, 2, none⟩ x2).setCell ⟨B, 3, none⟩ x3).setCell ⟨B, 4, none⟩ x4).setCell ⟨B, 5, none⟩ x5).setCell ⟨B, 6, none⟩ x6).setCell ⟨B, 7, none⟩ x7).setCell ⟨B, 8, none⟩ x8).setCell ⟨B, 9, none⟩ x9).setCell ⟨B, 10, none⟩ x10).heap[B]? = some (.cells #[x0, x1, x2, x3, x4, x5, x6, x7, x8, x9, x10] 27 (0, 0)) := by
  simp [World.setCell, Array.getElem?_modify, h]
theorem mo1 {w0 w : World} {B i : Nat} (h : Mv (fun k => k = B) w0 w) (x : Value) : Mv (fun k => k = B) w0 (w.setCell ⟨B, i, none⟩ x) := h.grown (grown_set w B i x) (fun k e => .inl (by cases e; rfl))
theorem mo_set {w0 w : World} {B : Nat} (h : Mv (fun k => k = B) w0 w) (x0 x1 x2 x3 x4 x5 x6 x7 x8 x9 x10 : Value) : Mv (fun k => k = B) w0 (((((((((((w.setCell ⟨B, 0, none⟩ x0).setCell ⟨B, 1, none⟩ x1).setCell ⟨B, 2, none⟩ x2).setCell ⟨B, 3, none⟩ x3).setCell ⟨B, 4, none⟩ x4).setCell ⟨B, 5, none⟩ x5).setCell ⟨B, 6, none⟩ x6).setCell ⟨B, 7, none⟩ x7).setCell ⟨B, 8, none⟩ x8).setCell ⟨B, 9, none⟩ x9).setCell ⟨B, 10, none⟩ x10) := (mo1 (mo1 (mo1 (mo1 (mo1 (mo1 (mo1 (mo1 (mo1 (mo1 (mo1 h x0) x1) x2) x3) x4) x5) x6) x7) x8) x9) x10)
def So (w1 : World) (B : Nat) (w : World) : Prop := Mv (fun k => k = B) w1 w ∧ ∃ c0 c1 c2 c3 c4 c5 c6 c7 c8 c9 c10, w.heap[B]? = some (.cells #[c0, c1, c2, c3, c4, c5, c6, c7, c8, c9, c10] 27 (0, 0))
theorem So.below {w1 w w' : World} {B : Nat} (h : So w1 B w) (hb : Below w.heap.size w w') (hB : B < w1.heap.size) : So w1 B w' := by
  obtain ⟨h1, c0, c1, c2, c3, c4, c5, c6, c7, c8, c9, c10, h2⟩ := h
  exact ⟨h1.below hb, c0, c1, c2, c3, c4, c5, c6, c7, c8, c9, c10, (hb.block B (Nat.lt_of_lt_of_le hB h1.size)).trans h2⟩
set_option maxHeartbeats 2000000 in
theorem reply_any {w : World} {b : Nat} {s : St} {T : List Ev} {F : Nat → Prop} (h : Sk w b s T F) (hT : T.length ≤ 1600000000000) (m : Ms) :
    Calls Tryz.prog 25 #[.pointer (some ⟨b, 0, none⟩), .agg (msgC m)] w fun e w' => e = .returned (.agg (msgC (rep s m))) ∧ Gp F b (nxt s m.jo m.ba m.ix m.tx) (T ++ news s m.jo m.ba m.ix m.tx) w w' := by
  obtain ⟨k, se, nu, jo, ba, ix, co, rc, rb, tx, pr⟩ := m
  rw [show msgC (⟨k, se, nu, jo, ba, ix, co, rc, rb, tx, pr⟩ : Ms) = #[.int .i64 k, .int .i64 se, .int .i64 nu, .int .i64 jo, .int .i64 ba, .int .i64 ix, .int .i64 co, .int .i64 rc, .int .u64 (rb : Int), .string tx, .string pr] from rfl]
  have b2 := (below_alloc w (.cells (msgC ⟨k, se, nu, jo, ba, ix, co, rc, rb, tx, pr⟩) 27)).alloc (Nat.le_of_lt (by simp)) (.cells (msgC ⟨0, 0, 0, 0, 0, 0, 0, 0, 0, ⟨#[]⟩, ⟨#[]⟩⟩) 27)
  have HP := hide ((h.below b2).put hT jo ba ix tx)
  have HB := hide b2
  have HA : Hid (((w.alloc (.cells (msgC ⟨k, se, nu, jo, ba, ix, co, rc, rb, tx, pr⟩) 27)).alloc (.cells (msgC ⟨0, 0, 0, 0, 0, 0, 0, 0, 0, ⟨#[]⟩, ⟨#[]⟩⟩) 27)).heap[w.heap.size]? = some (.cells (msgC ⟨k, se, nu, jo, ba, ix, co, rc, rb, tx, pr⟩) 27 (0, 0))) := hide (((below_alloc _ _).block _ (by simp)).trans (heap_alloc_new w _))
  have HR : Hid (((w.alloc (.cells (msgC ⟨k, se, nu, jo, ba, ix, co, rc, rb, tx, pr⟩) 27)).alloc (.cells (msgC ⟨0, 0, 0, 0, 0, 0, 0, 0, 0, ⟨#[]⟩, ⟨#[]⟩⟩) 27)).heap[w.heap.size + 1]? = some (.cells (msgC ⟨0, 0, 0, 0, 0, 0, 0, 0, 0, ⟨#[]⟩, ⟨#[]⟩⟩) 27 (0, 0))) := hide (by
    have := heap_alloc_new (w.alloc (.cells (msgC ⟨k, se, nu, jo, ba, ix, co, rc, rb, tx, pr⟩) 27)) (.cells (msgC ⟨0, 0, 0, 0, 0, 0, 0, 0, 0, ⟨#[]⟩, ⟨#[]⟩⟩) 27)
    rw [World.size_alloc] at this
    exact this)
  have hs2 : ((w.alloc (.cells (msgC ⟨k, se, nu, jo, ba, ix, co, rc, rb, tx, pr⟩) 27)).alloc (.cells (msgC ⟨0, 0, 0, 0, 0, 0, 0, 0, 0, ⟨#[]⟩, ⟨#[]⟩⟩) 27)).heap.size = w.heap.size + 2 := by simp
  have HLT := hide h.lt
  unfold msgC at HP HB HA HR hs2
  clear h b2
  go_enter Tryz.func25, Tryz.ntmps25
  go_wp2_with fail
  generalize (w.alloc (.cells #[.int .i64 k, .int .i64 se, .int .i64 nu, .int .i64 jo, .int .i64 ba, .int .i64 ix, .int .i64 co, .int .i64 rc, .int .u64 (rb : Int), .string tx, .string pr] 27)).alloc (.cells #[.int .i64 0, .int .i64 0, .int .i64 0, .int .i64 0, .int .i64 0, .int .i64 0, .int .i64 0, .int .i64 0, .int .u64 0, .string ⟨#[]⟩, .string ⟨#[]⟩] 27) = W at *
  refine HP.out.mono ?_
  rintro e w1 ⟨rfl, hg⟩
  obtain ⟨F', hS, hM, hF⟩ := hg
  have HS := hide hS
  have HM := hide hM
  have HF := hide hF
  have hA1 := (hM.block _ (by omega) (fun hf => by have := HLT.out _ hf; omega)).trans HA.out
  have hR1 := (hM.block _ (by omega) (fun hf => by have := HLT.out _ hf; omega)).trans HR.out
  have hs1 := hM.size
  have a3 : w1.cell? ⟨w.heap.size, 3, none⟩ = some (.int .i64 jo) := by simp [World.cell?, hA1]
  have a4 : w1.cell? ⟨w.heap.size, 4, none⟩ = some (.int .i64 ba) := by simp [World.cell?, hA1]
  have HR1 := hide hR1
  have HA1 := hide hA1
  have hNF : ¬ F' (w.heap.size + 1) := fun hf => (hF _ hf).elim (fun h => by have := HLT.out _ h; omega) (fun h => by omega)
  have HN := hide hNF
  clear hS hM hF HA HR HP hA1 hR1 hNF
  by_cases hp : pe s jo ba ix tx = 161
  · have hp1 : (pe s jo ba ix tx == 161) = true := by simpa using hp
    have HE : Hid (rep s ⟨k, se, nu, jo, ba, ix, co, rc, rb, tx, pr⟩ = ⟨16, 0, 0, jo, ba, 0, 0, 0, 0, ⟨#[]⟩, ⟨#[]⟩⟩) := hide (if_pos hp)
    clear hp
    obtain ⟨q0, q1, q2, q3, q4, q5, q6, q7, q8, q9, q10, z0, z1, z2, z3, z4, z5, z6, z7, z8, z9, z10⟩ := elev_of HR1.out
    go_wp2_with fail
    (try simp only [Exit.inBlock, Exit.then])
    refine bodyPost_ret (results_msg1 rfl _ _ (w.heap.size + 1) #[.int .i64 16, .int .i64 0, .int .i64 0, .int .i64 jo, .int .i64 ba, .int .i64 0, .int .i64 0, .int .i64 0, .int .u64 0, .string ⟨#[]⟩, .string ⟨#[]⟩] rfl ?_ rfl) rfl ⟨by rw [HE.out]; rfl, ?_⟩
    · simp [World.setCell, Array.getElem?_modify, HR1.out]
    · refine ⟨F', HS.out.keep fun k hk => ?_, ?_, fun k hk => ?_⟩
      · have : w.heap.size + 1 ≠ k := fun e => HN.out (by rw [e]; exact hk)
        simp [World.setCell, Array.getElem?_modify, this]
      · exact ((Mv.of_below HB.out).trans HM.out (fun _ h => .inl h)).trans (mo_set (Mv.refl _ w1) _ _ _ _ _ _ _ _ _ _ _) (fun k e => .inr (by omega))
      · rcases HF.out k hk with h | h
        · exact .inl h
        · exact .inr (by omega)
  · have hp1 : (pe s jo ba ix tx == 161) = false := by simpa using hp
    have HE : Hid (rep s ⟨k, se, nu, jo, ba, ix, co, rc, rb, tx, pr⟩ = ⟨15, 0, 0, jo, ba, 0, cnt (nxt s jo ba ix tx) jo ba, 0, 0, ⟨#[]⟩, ⟨#[]⟩⟩) := hide (if_neg hp)
    clear hp
    have HCt : Hid (∀ w', So w1 (w.heap.size + 1) w' → Calls Tryz.prog 12 #[.pointer (some ⟨b, 0, none⟩), .int .i64 jo, .int .i64 ba] w' fun e w'' => e = .returned (.int .i64 (cnt (nxt s jo ba ix tx) jo ba)) ∧ Below w'.heap.size w' w'') := hide fun w' hw => (HS.out.keep (w' := w') fun k hk => hw.1.block k (HS.out.lt k hk) (fun e => HN.out (by rw [← e]; exact hk))).count jo ba
    have HCe : Hid (∀ w', So w1 (w.heap.size + 1) w' → w'.cell? ⟨w.heap.size, 3, none⟩ = some (.int .i64 jo) ∧ w'.cell? ⟨w.heap.size, 4, none⟩ = some (.int .i64 ba)) := hide fun w' hw => by
      have h1 := (hw.1.block w.heap.size (by omega) (by omega)).trans HA1.out
      simp [World.cell?, h1]
    have HLR : Hid (w.heap.size + 1 < w1.heap.size) := hide (by omega)
    have HS0 : Hid (So w1 (w.heap.size + 1) w1.drew) := hide ⟨⟨rfl, rfl, rfl, Nat.le_refl _, fun _ _ _ => rfl⟩, _, _, _, _, _, _, _, _, _, _, _, HR1.out⟩
    go_wp2_with fail
    refine wp_region_held_drew (S := fun w' => So w1 (w.heap.size + 1) w') (by kernel_rfl) (HS0.out) (fun hHeld => ?_)
    refine wpAnyH_take (i := 0) (v := .pointer (some ⟨w.heap.size, 3, none⟩)) rfl (by kernel_rfl) (by kernel_rfl) (by kernel_rfl) (fun _ _ _ h => h) (Or.inl ⟨by kernel_rfl, fun w1 hSw => by clear hHeld; obtain ⟨k3, k4⟩ := HCe.out _ hSw; go_simp⟩) hHeld ?_
    try simp only [Act.put]
    try simp only [List.getElem_toArray]
    try simp only [List.getElem_cons_succ]
    try simp only [List.getElem_cons_zero]
    try simp only [List.setIfInBounds_toArray]
    try simp only [List.set_cons_succ, List.set_cons_zero]
    refine wpAnyH_take (i := 1) (v := .int .i64 jo) rfl (by kernel_rfl) (by kernel_rfl) (by kernel_rfl) (fun _ _ _ h => h) (Or.inl ⟨by kernel_rfl, fun w1 hSw => by clear hHeld; obtain ⟨k3, k4⟩ := HCe.out _ hSw; go_simp⟩) hHeld ?_
    try simp only [Act.put]
    try simp only [List.getElem_toArray]
    try simp only [List.getElem_cons_succ]
    try simp only [List.getElem_cons_zero]
    try simp only [List.setIfInBounds_toArray]
    try simp only [List.set_cons_succ, List.set_cons_zero]
    refine wpAnyH_take (i := 2) (v := .pointer (some ⟨w.heap.size, 4, none⟩)) rfl (by kernel_rfl) (by kernel_rfl) (by kernel_rfl) (fun _ _ _ h => h) (Or.inl ⟨by kernel_rfl, fun w1 hSw => by clear hHeld; obtain ⟨k3, k4⟩ := HCe.out _ hSw; go_simp⟩) hHeld ?_
    try simp only [Act.put]
    try simp only [List.getElem_toArray]
    try simp only [List.getElem_cons_succ]
    try simp only [List.getElem_cons_zero]
    try simp only [List.setIfInBounds_toArray]
    try simp only [List.set_cons_succ, List.set_cons_zero]
    refine wpAnyH_take (i := 3) (v := .int .i64 ba) rfl (by kernel_rfl) (by kernel_rfl) (by kernel_rfl) (fun _ _ _ h => h) (Or.inl ⟨by kernel_rfl, fun w1 hSw => by clear hHeld; obtain ⟨k3, k4⟩ := HCe.out _ hSw; go_simp⟩) hHeld ?_
    try simp only [Act.put]
    try simp only [List.getElem_toArray]
    try simp only [List.getElem_cons_succ]
    try simp only [List.getElem_cons_zero]
    try simp only [List.setIfInBounds_toArray]
    try simp only [List.set_cons_succ, List.set_cons_zero]
    refine wpAnyH_take (i := 4) (v := .pointer (some ⟨b, 0, none⟩)) rfl (by kernel_rfl) (by kernel_rfl) (by kernel_rfl) (fun _ _ _ h => h) (Or.inl ⟨by kernel_rfl, fun w1 hSw => by clear hHeld; obtain ⟨k3, k4⟩ := HCe.out _ hSw; go_simp⟩) hHeld ?_
    try simp only [Act.put]
    try simp only [List.getElem_toArray]
    try simp only [List.getElem_cons_succ]
    try simp only [List.getElem_cons_zero]
    try simp only [List.setIfInBounds_toArray]
    try simp only [List.set_cons_succ, List.set_cons_zero]
    refine wpAnyH_take (i := 5) (v := .pointer (some ⟨w.heap.size, 3, none⟩)) rfl (by kernel_rfl) (by kernel_rfl) (by kernel_rfl) (fun _ _ _ h => h) (Or.inl ⟨by kernel_rfl, fun w1 hSw => by clear hHeld; obtain ⟨k3, k4⟩ := HCe.out _ hSw; go_simp⟩) hHeld ?_
    try simp only [Act.put]
    try simp only [List.getElem_toArray]
    try simp only [List.getElem_cons_succ]
    try simp only [List.getElem_cons_zero]
    try simp only [List.setIfInBounds_toArray]
    try simp only [List.set_cons_succ, List.set_cons_zero]
    refine wpAnyH_take (i := 6) (v := .int .i64 jo) rfl (by kernel_rfl) (by kernel_rfl) (by kernel_rfl) (fun _ _ _ h => h) (Or.inl ⟨by kernel_rfl, fun w1 hSw => by clear hHeld; obtain ⟨k3, k4⟩ := HCe.out _ hSw; go_simp⟩) hHeld ?_
    try simp only [Act.put]
    try simp only [List.getElem_toArray]
    try simp only [List.getElem_cons_succ]
    try simp only [List.getElem_cons_zero]
    try simp only [List.setIfInBounds_toArray]
    try simp only [List.set_cons_succ, List.set_cons_zero]
    refine wpAnyH_take (i := 7) (v := .pointer (some ⟨w.heap.size, 4, none⟩)) rfl (by kernel_rfl) (by kernel_rfl) (by kernel_rfl) (fun _ _ _ h => h) (Or.inl ⟨by kernel_rfl, fun w1 hSw => by clear hHeld; obtain ⟨k3, k4⟩ := HCe.out _ hSw; go_simp⟩) hHeld ?_
    try simp only [Act.put]
    try simp only [List.getElem_toArray]
    try simp only [List.getElem_cons_succ]
    try simp only [List.getElem_cons_zero]
    try simp only [List.setIfInBounds_toArray]
    try simp only [List.set_cons_succ, List.set_cons_zero]
    refine wpAnyH_take (i := 8) (v := .int .i64 ba) rfl (by kernel_rfl) (by kernel_rfl) (by kernel_rfl) (fun _ _ _ h => h) (Or.inl ⟨by kernel_rfl, fun w1 hSw => by clear hHeld; obtain ⟨k3, k4⟩ := HCe.out _ hSw; go_simp⟩) hHeld ?_
    try simp only [Act.put]
    try simp only [List.getElem_toArray]
    try simp only [List.getElem_cons_succ]
    try simp only [List.getElem_cons_zero]
    try simp only [List.setIfInBounds_toArray]
    try simp only [List.set_cons_succ, List.set_cons_zero]
    refine wpAnyH_ready (rs := [9]) (by kernel_rfl) (by simp) ?_
    refine AllReadyH.cons rfl (fun K hK => ?_) AllReadyH.nil
    go_simp
    refine (HCt.out _ hHeld).mono ?_
    rintro e V1 ⟨rfl, hb⟩
    have HS1 := hide (So.below hHeld hb HLR.out)
    clear hb
    refine hK.out _ _ (HS1.out) (fun hHeld => ?_)
    clear hK K
    try simp only [Act.put]
    try simp only [List.getElem_toArray]
    try simp only [List.getElem_cons_succ]
    try simp only [List.getElem_cons_zero]
    try simp only [List.setIfInBounds_toArray]
    try simp only [List.set_cons_succ, List.set_cons_zero]
    refine wpAnyH_take (i := 10) (v := .agg #[.int .i64 15, .int .i64 0, .int .i64 0, .int .i64 jo, .int .i64 ba, .int .i64 0, .int .i64 (cnt (nxt s jo ba ix tx) jo ba), .int .i64 0, .int .u64 0, .string ⟨#[]⟩, .string ⟨#[]⟩]) rfl (by kernel_rfl) (by kernel_rfl) (by kernel_rfl) (fun _ _ _ h => h) (Or.inl ⟨by kernel_rfl, fun w1 hSw => by clear hHeld; obtain ⟨k3, k4⟩ := HCe.out _ hSw; go_simp⟩) hHeld ?_
    try simp only [Act.put]
    try simp only [List.getElem_toArray]
    try simp only [List.getElem_cons_succ]
    try simp only [List.getElem_cons_zero]
    try simp only [List.setIfInBounds_toArray]
    try simp only [List.set_cons_succ, List.set_cons_zero]
    refine wpAnyH_ready (rs := [11]) (by kernel_rfl) (by simp) ?_
    refine AllReadyH.cons rfl (fun K hK => ?_) AllReadyH.nil
    obtain ⟨hMo, c0, c1, c2, c3, c4, c5, c6, c7, c8, c9, c10, hB⟩ := hHeld
    obtain ⟨q0, q1, q2, q3, q4, q5, q6, q7, q8, q9, q10, z0, z1, z2, z3, z4, z5, z6, z7, z8, z9, z10⟩ := elev_of hB
    have HB2 := hide hB
    have HMo := hide hMo
    clear hB hMo
    go_simp
    have HB3 := hide (elev_set HB2.out (.int .i64 15) (.int .i64 0) (.int .i64 0) (.int .i64 jo) (.int .i64 ba) (.int .i64 0) (.int .i64 (cnt (nxt s jo ba ix tx) jo ba)) (.int .i64 0) (.int .u64 0) (.string ⟨#[]⟩) (.string ⟨#[]⟩))
    refine hK.out _ _ (⟨mo_set HMo.out _ _ _ _ _ _ _ _ _ _ _, _, _, _, _, _, _, _, _, _, _, _, HB3.out⟩) (fun hHeld => ?_)
    clear hK K
    try simp only [Act.put]
    try simp only [List.getElem_toArray]
    try simp only [List.getElem_cons_succ]
    try simp only [List.getElem_cons_zero]
    try simp only [List.setIfInBounds_toArray]
    try simp only [List.set_cons_succ, List.set_cons_zero]
    refine wpAnyH_done (by kernel_rfl) ?_ _
    have HMf := hide hHeld.1
    clear hHeld
    go_wp2_with fail
    (try simp only [Exit.inBlock, Exit.then])
    refine bodyPost_ret (results_msg1 rfl _ _ (w.heap.size + 1) _ rfl HB3.out rfl) rfl ⟨by rw [HE.out]; rfl, ?_⟩
    refine ⟨F', HS.out.keep fun k hk => HMf.out.block k (HS.out.lt k hk) (fun e => HN.out (by rw [← e]; exact hk)), ?_, fun k hk => ?_⟩
    · exact ((Mv.of_below HB.out).trans HM.out (fun _ h => .inl h)).trans HMf.out (fun k e => .inr (by omega))
    · rcases HF.out k hk with h | h
      · exact .inl h
      · exact .inr (by omega)
end Go.Proofs.YtbbgkajmacknkaaGreat.K
end

section
namespace Go.Proofs.YtbbgkajmacknkaaGreat.K
open Go.RowKit Go.MapKept Go.Shelf
open Wr (Ms L)
set_option maxRecDepth 20000

theorem may_nk {k : Int} {l : L} {n a b : Int} (ha : Wr.least l = a) (hb : Wr.most k l = b) (hs : Wr.sz l ⟨n, 0, Wr.e0⟩ = n) (hR : l ≠ .R) (h1 : a ≤ n) (h2 : n ≤ b) : Wr.may k l ⟨n, 0, Wr.e0⟩ = true := by
  unfold Wr.may
  rw [hs, ha, hb, decide_eq_true (And.intro h1 h2), decide_eq_true hR]
  rfl
theorem ref_ok {j b : Int} (hj : 1 ≤ j ∧ j ≤ 8) (hb : 1 ≤ b ∧ b ≤ 1099511627776) : Wr.check ⟨16, 0, 0, j, b, 0, 0, 0, 0, ⟨#[]⟩, ⟨#[]⟩⟩ = 0 := by
  unfold Wr.check
  rw [if_neg (by simp only; omega), if_neg (fun h => absurd (show (16 : Int) = 6 from h.1) (by decide)), if_pos]
  show (Wr.may 16 .J ⟨j, 0, Wr.e0⟩ && (Wr.may 16 .B ⟨b, 0, Wr.e0⟩ && decide (Wr.zM 16 = Wr.zM 16))) = true
  rw [may_nk (l := .J) (a := 1) (b := 8) rfl rfl rfl (by decide) hj.1 hj.2, may_nk (l := .B) (a := 1) (b := 1099511627776) rfl rfl rfl (by decide) hb.1 hb.2, decide_eq_true rfl]
  rfl
theorem took_ok {j b c : Int} (hj : 1 ≤ j ∧ j ≤ 8) (hb : 1 ≤ b ∧ b ≤ 1099511627776) (hc : 0 ≤ c ∧ c ≤ 17) : Wr.check ⟨15, 0, 0, j, b, 0, c, 0, 0, ⟨#[]⟩, ⟨#[]⟩⟩ = 0 := by
  unfold Wr.check
  rw [if_neg (by simp only; omega), if_neg (fun h => absurd (show (15 : Int) = 6 from h.1) (by decide)), if_pos]
  show (Wr.may 15 .J ⟨j, 0, Wr.e0⟩ && (Wr.may 15 .B ⟨b, 0, Wr.e0⟩ && (Wr.may 15 .C ⟨c, 0, Wr.e0⟩ && decide (Wr.zM 15 = Wr.zM 15)))) = true
  rw [may_nk (l := .J) (a := 1) (b := 8) rfl rfl rfl (by decide) hj.1 hj.2, may_nk (l := .B) (a := 1) (b := 1099511627776) rfl rfl rfl (by decide) hb.1 hb.2, may_nk (l := .C) (a := 0) (b := 17) rfl rfl rfl (by decide) hc.1 hc.2, decide_eq_true rfl]
  rfl
theorem may_bd {k : Int} {l : L} {v : Wr.V} (h : Wr.may k l v = true) : Wr.least l ≤ Wr.sz l v ∧ Wr.sz l v ≤ Wr.most k l := by
  unfold Wr.may at h
  rw [Bool.and_eq_true] at h
  exact of_decide_eq_true h.1
theorem put_bd {m : Ms} (hc : Wr.check m = 0) (hk : m.k = 6) : (1 ≤ m.jo ∧ m.jo ≤ 8) ∧ (1 ≤ m.ba ∧ m.ba ≤ 1099511627776) ∧ (0 ≤ m.ix ∧ m.ix ≤ 16) ∧ m.tx.size ≤ 32 ∧ (m.ix = 0 → m.tx.size = 0) := by
  obtain ⟨_, h2, h3, _⟩ := (Wr.check_iff m).1 hc
  have hl : Wr.letters m.k = [.J, .B, .I, .T] := by rw [hk]; rfl
  rw [hl] at h3
  have e1 : Wr.least .J ≤ m.jo ∧ m.jo ≤ Wr.most m.k .J := may_bd (h3 .J (by decide))
  have e2 : Wr.least .B ≤ m.ba ∧ m.ba ≤ Wr.most m.k .B := may_bd (h3 .B (by decide))
  have e3 : Wr.least .I ≤ m.ix ∧ m.ix ≤ Wr.most m.k .I := may_bd (h3 .I (by decide))
  have e4 : Wr.least .T ≤ (m.tx.size : Int) ∧ (m.tx.size : Int) ≤ Wr.most m.k .T := may_bd (h3 .T (by decide))
  rw [hk] at e3
  have f1 : (1 : Int) ≤ m.jo ∧ m.jo ≤ 8 := e1
  have f2 : (1 : Int) ≤ m.ba ∧ m.ba ≤ 1099511627776 := e2
  have f3 : (0 : Int) ≤ m.ix ∧ m.ix ≤ 16 := e3
  have f4 : (0 : Int) ≤ (m.tx.size : Int) ∧ (m.tx.size : Int) ≤ 32 := e4
  refine ⟨f1, f2, f3, by omega, fun h0 => ?_⟩
  exact Classical.not_not.1 fun h5 => h2 ⟨hk, h0, h5⟩
theorem pe_put {s : St} {m : Ms} (hc : Wr.check m = 0) (hk : m.k = 6) : pe s m.jo m.ba m.ix m.tx = 161 ↔ m.ba < (s m.jo).1 := by
  obtain ⟨h1, h2, h3, h4, h5⟩ := put_bd hc hk
  unfold pe
  rw [if_neg (by omega), if_neg (by intro h; rcases h with h | ⟨h, h'⟩; omega; exact h' (h5 h))]
  by_cases h : m.ba < (s m.jo).1
  · rw [if_pos (.inr (.inr h))]; simp [h]
  · rw [if_neg (by omega)]
    constructor
    · intro h6; split at h6 <;> omega
    · intro h6; exact absurd h6 h
theorem cnt_nn (s : St) (j b : Int) : 0 ≤ cnt s j b := by unfold cnt; split <;> omega
/-- a claim that is not refused is counted -/
theorem claim_pos {s : St} {m : Ms} (hc : Wr.check m = 0) (hk : m.k = 6) (hb : ¬ m.ba < (s m.jo).1) (h0 : m.ix = 0) : 0 < cnt (nxt s m.jo m.ba m.ix m.tx) m.jo m.ba := by
  obtain ⟨h1, h2, h3, h4, h5⟩ := put_bd hc hk
  have hn := cnt_nn s m.jo m.ba
  have hp : pe s m.jo m.ba m.ix m.tx = 0 := by
    unfold pe
    rw [if_neg (by omega), if_neg (by intro h; rcases h with h | ⟨h, h'⟩; omega; exact h' (h5 h)), if_neg (by omega), if_neg (by omega)]
  by_cases hz : cnt s m.jo m.ba = 0
  · have ha : adm s m.jo m.ba m.ix m.tx = true := by unfold adm; rw [hp, h0, hz]; rfl
    unfold nxt
    rw [if_pos ha]
    unfold cnt
    simp [h2.1]
    try (rw [if_pos h0]; simp)
  · have ha : adm s m.jo m.ba m.ix m.tx = false := by unfold adm; exact decide_eq_false fun h => hz (by rw [← h.2, h0])
    unfold nxt
    rw [ha, if_neg (by decide)]
    omega
/-- the badge that was found so far -/
def topF (s : St) (j : Int) (l : List Az) : Int := if (l.any fun y => decide (y.job = j)) = true then (s j).1 else 0
theorem topF_step {s : St} {j : Int} {Y : List Az} {k : Nat} (h : k < Y.length) : topF s j (Y.take (k + 1)) = if (Y[k]).job = j then (s j).1 else topF s j (Y.take k) := by
  unfold topF
  rw [← List.take_append_getElem h, List.any_append]
  by_cases e : (Y[k]).job = j
  · simp [e]
  · simp [e]
theorem topF_all {s : St} {j : Int} {Y : List Az} (h : Ls s Y) (hs : 1 ≤ (s j).1 ∨ s j = (0, [])) : topF s j Y = (s j).1 := by
  unfold topF
  split
  · rfl
  · rename_i hn
    rcases hs with hs | hs
    · obtain ⟨y, hy, e⟩ := h.all j hs
      exact absurd (List.any_eq_true.2 ⟨y, hy, decide_eq_true e⟩) hn
    · rw [hs]
/-- the count that was found so far -/
def cntF (s : St) (j b : Int) (l : List Az) : Int := if (l.any fun y => decide (y.job = j) && decide (y.bdg = b)) = true then cnt s j b else 0
theorem cntF_step {s : St} {j b : Int} {Y : List Az} {k : Nat} (h : k < Y.length) : cntF s j b (Y.take (k + 1)) = if (Y[k]).job = j ∧ (Y[k]).bdg = b then cnt s j b else cntF s j b (Y.take k) := by
  unfold cntF
  rw [← List.take_append_getElem h, List.any_append]
  by_cases e : (Y[k]).job = j ∧ (Y[k]).bdg = b
  · simp [e.1, e.2]
  · rw [if_neg e]
    have e2 : (decide ((Y[k]).job = j) && decide ((Y[k]).bdg = b)) = false := by
      rw [Bool.and_eq_false_iff]
      by_cases e3 : (Y[k]).job = j
      · exact .inr (decide_eq_false fun e4 => e ⟨e3, e4⟩)
      · exact .inl (decide_eq_false e3)
    simp [e2]
theorem cntF_all {s : St} {j b : Int} {Y : List Az} (h : Ls s Y) : cntF s j b Y = cnt s j b := by
  unfold cntF
  split
  · rfl
  · rename_i hn
    unfold cnt
    rw [if_neg]
    rintro ⟨h1, h2⟩
    obtain ⟨y, hy, e⟩ := h.all j h1
    have h3 := h.at_ y hy
    rw [e] at h3
    have h4 : y.bdg = b := by rw [← h2, h3]
    exact hn (List.any_eq_true.2 ⟨y, hy, by rw [decide_eq_true e, decide_eq_true h4]; rfl⟩)
theorem ls_len {s : St} {Y : List Az} (h : Ls s Y) : Y.length ≤ 8 := by
  have key : ∀ (l : List Az) (n : Nat), Rise l → (∀ y ∈ l, (n : Int) < y.job ∧ y.job ≤ 8) → l.length + n ≤ 8 ∨ l = [] := by
    intro l
    induction l with
    | nil => intro n _ _; exact .inr rfl
    | cons a l ih =>
      intro n hr ho
      obtain ⟨h1, h2⟩ := List.pairwise_cons.1 hr
      have ha := ho a (.head _)
      rcases ih (n + 1) h2 (fun y hy => ⟨by have := h1 y hy; have := ha.1; omega, (ho y (.tail _ hy)).2⟩) with h3 | h3
      · left; rw [List.length_cons]; omega
      · left; rw [h3]; simp; omega
  rcases key Y 0 h.rise (fun y hy => by have := h.ok y hy; exact ⟨by omega, this.2.1⟩) with h1 | h1
  · omega
  · rw [h1]; simp
theorem cnt_at {s : St} {j b : Int} {Y : List Az} (h : Ls s Y) {y : Az} (hy : y ∈ Y) (h1 : y.job = j) (h2 : y.bdg = b) : cnt s j b = 1 + (y.pcs.length : Int) := by
  have h3 := h.at_ y hy
  have h4 := (h.ok y hy).2.2.1
  rw [h1] at h3
  unfold cnt
  rw [h3, if_pos ⟨h4, h2⟩]
  show (y.pcs.length : Int) + 1 = _
  omega
end Go.Proofs.YtbbgkajmacknkaaGreat.K
end

section
namespace Go.Proofs.YtbbgkajmacknkaaGreat.K
open Go.RowKit Go.MapKept Go.Shelf
open Wr (Ms)
set_option maxRecDepth 20000

/-- is it a put? -/
def isPut (d : ByteArray) : Bool := decide ((Wr.decode limP d).2 = 0 ∧ (Wr.decode limP d).1.k = 6)
def hm (d : ByteArray) : Ms := (Wr.decode limP d).1
def hst (s : St) (d : ByteArray) : St := if isPut d = true then nxt s (hm d).jo (hm d).ba (hm d).ix (hm d).tx else s
def hnw (s : St) (d : ByteArray) : List Ev := if isPut d = true then news s (hm d).jo (hm d).ba (hm d).ix (hm d).tx else []
/-- behind a Hear -/
def HrP (F : Nat → Prop) (b : Nat) (s : St) (T : List Ev) (node life : Int) (d : ByteArray) (w : World) (e : Ending) (w' : World) : Prop :=
  Gp F b (hst s d) (T ++ hnw s d) w w' ∧
  ((isPut d = false ∧ e = .returned (.slice none 0 0)) ∨
   (isPut d = true ∧ ∃ g, e = .returned (.slice (some ⟨g, 0, none⟩) 1 1) ∧ w.heap.size ≤ g ∧ w'.heap[g]? = some (.cells #[.int .i64 0, .int .i64 1, .int .i64 0, .int .i64 node, .int .i64 life, .string (encB (rep s (hm d)))] 48 (0, 0)) ∧ Mv F w w'))
set_option maxHeartbeats 2000000 in
theorem hear_err {w : World} {b : Nat} {s : St} {T : List Ev} {F : Nat → Prop} (h : Sk w b s T F) (node life : Int) (d : ByteArray) (hd : d.size ≤ 9223372036854775807) (he : (Wr.decode limP d).2 ≠ 0) :
    Calls Tryz.prog 9 #[.pointer (some ⟨b, 0, none⟩), .agg #[.int .i64 node, .int .i64 life], .string d] w (HrP F b s T node life d w) := by
  have hp : isPut d = false := by unfold isPut; simp [he]
  have HP : Hid (isPut d = false ∧ hst s d = s ∧ hnw s d = []) := hide ⟨hp, by unfold hst; rw [hp]; rfl, by unfold hnw; rw [hp]; rfl⟩
  have H := hide h
  have HD := hide (fun w => decode_any d w hd)
  have hn : (((Wr.decode limP d).2 : Int) != 0) = true := by simpa using he
  generalize (Wr.decode limP d).2 = er at *
  generalize (Wr.decode limP d).1 = m at *
  obtain ⟨k, se, nu, jo, ba, ix, co, rc, rb, tx, pr⟩ := m
  rw [show msgC (⟨k, se, nu, jo, ba, ix, co, rc, rb, tx, pr⟩ : Ms) = #[.int .i64 k, .int .i64 se, .int .i64 nu, .int .i64 jo, .int .i64 ba, .int .i64 ix, .int .i64 co, .int .i64 rc, .int .u64 (rb : Int), .string tx, .string pr] from rfl] at HD
  clear h hp he
  go_enter Tryz.func9, Tryz.ntmps9
  go_wp2_with fail
  refine (HD.out _).mono ?_
  rintro e w1 ⟨rfl, hb1⟩
  have HB1 := hide (below_of (below_alloc w _) hb1)
  clear hb1 HD
  go_wp2_with fail
  go_ret
  refine ⟨?_, .inl ⟨HP.out.1, rfl⟩⟩
  rw [HP.out.2.1, HP.out.2.2, List.append_nil]
  exact H.out.gp (HB1.out.alloc HB1.out.size _)
set_option maxHeartbeats 2000000 in
theorem hear_kind {w : World} {b : Nat} {s : St} {T : List Ev} {F : Nat → Prop} (h : Sk w b s T F) (node life : Int) (d : ByteArray) (hd : d.size ≤ 9223372036854775807) (he : (Wr.decode limP d).2 = 0) (hk : (Wr.decode limP d).1.k ≠ 6) :
    Calls Tryz.prog 9 #[.pointer (some ⟨b, 0, none⟩), .agg #[.int .i64 node, .int .i64 life], .string d] w (HrP F b s T node life d w) := by
  have hp : isPut d = false := by unfold isPut; simp [hk]
  have HP : Hid (isPut d = false ∧ hst s d = s ∧ hnw s d = []) := hide ⟨hp, by unfold hst; rw [hp]; rfl, by unfold hnw; rw [hp]; rfl⟩
  have H := hide h
  have HD := hide (fun w => decode_any d w hd)
  rw [he] at HD
  clear he
  generalize (Wr.decode limP d).1 = m at *
  obtain ⟨k, se, nu, jo, ba, ix, co, rc, rb, tx, pr⟩ := m
  simp only at hk
  have hk2 : (k != 6) = true := by simpa using hk
  rw [show msgC (⟨k, se, nu, jo, ba, ix, co, rc, rb, tx, pr⟩ : Ms) = #[.int .i64 k, .int .i64 se, .int .i64 nu, .int .i64 jo, .int .i64 ba, .int .i64 ix, .int .i64 co, .int .i64 rc, .int .u64 (rb : Int), .string tx, .string pr] from rfl] at HD
  clear h hp hk
  go_enter Tryz.func9, Tryz.ntmps9
  go_wp2_with fail
  refine (HD.out _).mono ?_
  rintro e w1 ⟨rfl, hb1⟩
  have HB1 := hide (below_of (below_alloc w _) hb1)
  clear hb1 HD
  go_wp2_with fail
  go_ret
  refine ⟨?_, .inl ⟨HP.out.1, rfl⟩⟩
  rw [HP.out.2.1, HP.out.2.2, List.append_nil]
  exact H.out.gp (HB1.out.alloc HB1.out.size _)
set_option maxHeartbeats 2000000 in
theorem hear_put {w : World} {b : Nat} {s : St} {T : List Ev} {F : Nat → Prop} (h : Sk w b s T F) (hT : T.length ≤ 1600000000000) (node life : Int) (d : ByteArray) (hd : d.size ≤ 9223372036854775807) (he : (Wr.decode limP d).2 = 0) (hk : (Wr.decode limP d).1.k = 6) :
    Calls Tryz.prog 9 #[.pointer (some ⟨b, 0, none⟩), .agg #[.int .i64 node, .int .i64 life], .string d] w (HrP F b s T node life d w) := by
  have hp : isPut d = true := by unfold isPut; simp [hk, he]
  have H := hide h
  have HD := hide (fun w => decode_any d w hd)
  rw [he] at HD
  clear he
  have HP : Hid (isPut d = true ∧ hst s d = nxt s (hm d).jo (hm d).ba (hm d).ix (hm d).tx ∧ hnw s d = news s (hm d).jo (hm d).ba (hm d).ix (hm d).tx) := hide ⟨hp, by unfold hst; rw [hp]; rfl, by unfold hnw; rw [hp]; rfl⟩
  have hmd : hm d = (Wr.decode limP d).1 := rfl
  have HE : Hid (∀ w, Calls Tryz.prog 24 #[.agg (msgC (rep s (hm d)))] w fun e w' => e = .returned (.tuple #[.string (encB (rep s (hm d))), .int .i64 (Wr.check (rep s (hm d)) : Int)]) ∧ Below w.heap.size w w') := hide fun w => encode_any (rep s (hm d)) (by unfold rep; split <;> (show (0 : Nat) < _; decide)) w
  have HR : Hid (∀ w1, Sk w1 b s T F → Calls Tryz.prog 25 #[.pointer (some ⟨b, 0, none⟩), .agg (msgC (hm d))] w1 fun e w' => e = .returned (.agg (msgC (rep s (hm d)))) ∧ Gp F b (nxt s (hm d).jo (hm d).ba (hm d).ix (hm d).tx) (T ++ news s (hm d).jo (hm d).ba (hm d).ix (hm d).tx) w1 w') := hide fun w1 h1 => reply_any h1 hT (hm d)
  have HLT := hide h.lt
  rw [← hmd] at HD hk
  clear hmd
  generalize hq : hm d = m at *
  generalize hr : rep s m = r at *
  generalize hen : encB r = er at *
  generalize (Wr.check r : Int) = ck at *
  have HQ : Hid (encB (rep s (hm d)) = er) := hide (by rw [hq, hr]; exact hen)
  obtain ⟨k, se, nu, jo, ba, ix, co, rc, rb, tx, pr⟩ := m
  obtain ⟨k2, se2, nu2, jo2, ba2, ix2, co2, rc2, rb2, tx2, pr2⟩ := r
  simp only at hk HP
  subst hk
  unfold msgC at HD HR HE
  dsimp only at HD HR HE
  clear h hp hq hr hen hT hd
  go_enter Tryz.func9, Tryz.ntmps9
  go_wp2_with fail
  refine (HD.out _).mono ?_
  rintro e w1 ⟨rfl, hb1⟩
  have HB1 := hide (below_of (below_alloc w (.cells #[.int .i64 node, .int .i64 life] 29)) hb1)
  have hA1 : w1.heap[w.heap.size]? = some (.cells #[.int .i64 node, .int .i64 life] 29 (0, 0)) := (hb1.block _ (by simp)).trans (heap_alloc_new w _)
  have hs1 : w.heap.size < w1.heap.size := lt_blk hA1
  have HA1 := hide hA1
  clear hb1 HD hA1
  go_wp2_with fail
  have HB2 := hide (HB1.out.alloc HB1.out.size (.cells #[.int .i64 6, .int .i64 se, .int .i64 nu, .int .i64 jo, .int .i64 ba, .int .i64 ix, .int .i64 co, .int .i64 rc, .int .u64 (rb : Int), .string tx, .string pr] 27))
  refine (HR.out _ (H.out.below HB2.out)).mono ?_
  rintro e w3 ⟨rfl, hg3⟩
  have hg3' := Gp.pre HB2.out hg3
  obtain ⟨_, _, hM3, _⟩ := hg3
  have hA3 : w3.heap[w.heap.size]? = some (.cells #[.int .i64 node, .int .i64 life] 29 (0, 0)) := (hM3.block _ (by simp; omega) (fun hf => by have := HLT.out _ hf; omega)).trans (((below_alloc w1 _).block _ hs1).trans HA1.out)
  have HA3 := hide hA3
  have HG3 := hide hg3'
  have hs3 : w.heap.size < w3.heap.size := lt_blk hA3
  clear hM3 hg3' HB2 HR hA3
  go_wp2_with fail
  refine (HE.out _).mono ?_
  rintro e w4 ⟨rfl, hb4⟩
  have hA4 := (hb4.block _ hs3).trans HA3.out
  have n0 : w4.cell? ⟨w.heap.size, 0, none⟩ = some (.int .i64 node) := by simp [World.cell?, hA4]
  have n1 : w4.cell? ⟨w.heap.size, 1, none⟩ = some (.int .i64 life) := by simp [World.cell?, hA4]
  have HG4 := hide (HG3.out.below hb4)
  have hs4 : w.heap.size ≤ w4.heap.size := by have := hb4.size; omega
  clear hb4 hA4 HE
  go_wp2_with fail
  go_ret
  have hgf := HG4.out.below (below_alloc w4 (.cells #[.int .i64 0, .int .i64 1, .int .i64 0, .int .i64 node, .int .i64 life, .string er] 48))
  refine ⟨?_, .inr ⟨HP.out.1, w4.heap.size, rfl, hs4, by rw [HQ.out]; exact heap_alloc_new w4 _, ?_⟩⟩
  · rw [HP.out.2.1, HP.out.2.2]
    exact hgf
  · obtain ⟨_, _, hM, _⟩ := hgf
    exact hM
/-- Hear -/
theorem Sk.hear {w : World} {b : Nat} {s : St} {T : List Ev} {F : Nat → Prop} (h : Sk w b s T F) (hT : T.length ≤ 1600000000000) (node life : Int) (d : ByteArray) (hd : d.size ≤ 9223372036854775807) :
    Calls Tryz.prog 9 #[.pointer (some ⟨b, 0, none⟩), .agg #[.int .i64 node, .int .i64 life], .string d] w (HrP F b s T node life d w) := by
  by_cases he : (Wr.decode limP d).2 = 0
  · by_cases hk : (Wr.decode limP d).1.k = 6
    · exact hear_put h hT node life d hd he hk
    · exact hear_kind h node life d hd he hk
  · exact hear_err h node life d hd he
end Go.Proofs.YtbbgkajmacknkaaGreat.K
end
