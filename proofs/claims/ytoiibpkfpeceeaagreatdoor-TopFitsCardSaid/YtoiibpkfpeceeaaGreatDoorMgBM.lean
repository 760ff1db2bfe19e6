import Derived.Test.YtoiibpkfpeceeaaGreatDoorMgAV
import Derived.Test.YtoiibpkfpeceeaaGreatDoorMgBF
import Derived.Test.YtoiibpkfpeceeaaGreatDoorMgBL

section
namespace Go.Proofs.YtoiibpkfpeceeaaGreatDoor
open Go.RowKit Go.Shelf

theorem cd_nil (w : World) : Cd w (.slice none 0 0) [] := ⟨none, 0, rfl, fun h => absurd h (Nat.lt_irrefl _)⟩
theorem exI_is : exI = Im.xsE := rfl
theorem Tbs.of {w : World} (h : Libs w) : Tbs w := ⟨h.tabs.1, h.tabs.2⟩
def hiMsg : W.Wr.Ms := W.Wr.zM 1
set_option maxRecDepth 20000 in
theorem hi_decode : W.Wr.decode W.limP ⟨#[1]⟩ = (hiMsg, 0) := by kernel_rfl
theorem hi_c : W.msgC hiMsg = #[.int .i64 1, .int .i64 0, .int .i64 0, .int .i64 0, .int .i64 0, .int .i64 0, .int .i64 0, .int .i64 0, .int .u64 0, .string ⟨#[]⟩, .string ⟨#[]⟩] := rfl
theorem below_one' (w : World) (o : Obj) : Below w.heap.size w (w.alloc o) := (Below.refl _ _).alloc (Nat.le_refl _) o
theorem below_of' {w W w' : World} (h : Below w.heap.size w W) (k : Below W.heap.size W w') : Below w.heap.size w w' := h.trans (k.mono h.size)

set_option maxRecDepth 20000 in
set_option maxHeartbeats 4000000 in
theorem reck_any (w : World) (hL : Libs w) : Calls Tryz.prog 5 #[] w fun e w' => e = .returned (.bool true) ∧ Below w.heap.size w w' := by
  have HL := hide hL
  clear hL
  go_enter Tryz.func5, Tryz.ntmps5
  go_wp2_with fail
  refine (parseText_any _ (by decide) w HL.out).mono ?_
  rw [ex_parse]
  rintro e w1 ⟨v1, rfl, hr1, hb1⟩
  dsimp only
  have hC1 : Cd w1 v1 exI := own_cd hr1
  obtain ⟨ad1, cap1, hv1, _⟩ := id hC1
  subst hv1
  have HB1 : Hid (Below w.heap.size w (w1.alloc (.cells #[.int .i64 9, .slice ad1 exI.length cap1] 24))) := below_of' hb1 (below_one' w1 _)
  have HW : Hid (∀ W, Below w1.heap.size w1 W → Calls Tryz.prog 4 #[.agg #[.int .i64 9, .slice ad1 exI.length cap1]] W fun e w' => ∃ g cap ad cap2, e = .returned (.tuple #[.agg #[.int .i64 0, .int .u64 4609434218613702656, .slice (some ⟨g, 0, none⟩) 1 cap, .slice ad 0 cap2, .int .i64 3], .int .i64 0]) ∧ w'.cell? ⟨g, 0, none⟩ = some (.string Im.t31) ∧ Below W.heap.size W w') := hide fun W hW => wholeE W _ (by rw [← exI_is]; exact hC1.below hW (Nat.le_refl _)) (Tbs.of (HL.out.below (hb1.trans (hW.mono hb1.size)) (Nat.le_refl _)))
  clear hr1 hb1 hC1
  go_wp2_with fail
  refine (HW.out _ (below_one' w1 _)).mono ?_
  rintro e w2 ⟨g, cap, ad, cap2, rfl, hc2, hb2⟩
  have HB2 := hide (below_of' HB1.out hb2)
  have hg2 : g < w2.heap.size := World.block_lt_of_cell? _ _ hc2
  clear HB1 hb2 HW
  go_wp2_with fail
  refine (W.decode_any _ _ (by decide)).mono ?_
  rw [hi_decode]
  dsimp only
  rw [hi_c]
  rintro e w3 ⟨rfl, hb3⟩
  have hO3 := (hb3.block w2.heap.size (by simp)).trans (heap_alloc_new w2 _)
  obtain ⟨-, -, o2, -, o4, -⟩ := five_of hO3
  have hb23 : Below w2.heap.size w2 w3 := below_of' (below_one' w2 _) hb3
  have c3 : w3.cell? ⟨g, 0, none⟩ = some (.string Im.t31) := (hb23.cell (p := ⟨g, 0, none⟩) hg2).trans hc2
  have HB3 := hide (below_of' HB2.out hb23)
  have hg3 : g < w3.heap.size := Nat.lt_of_lt_of_le hg2 hb23.size
  have hp3 : w2.heap.size < w3.heap.size := lt_of_block hO3
  have t31 := t31_is
  generalize Im.t31 = tt at *
  clear HB2 hb3 hb23 hO3 hc2 hg2 HL
  go_wp2_with fail
  go_ret
  exact ⟨by simp, below_of' HB3.out (below_one' w3 _)⟩
end Go.Proofs.YtoiibpkfpeceeaaGreatDoor
end

section
namespace Go.Proofs.YtoiibpkfpeceeaaGreatDoor
open Go.RowKit Go.Shelf

theorem chk_ok (m : W.Wr.Ms) (h1 : 1 ≤ m.k ∧ m.k ≤ 16) (h2 : ¬ (m.k = 6 ∧ m.ix = 0 ∧ m.tx.size ≠ 0)) (h3 : W.Wr.chk (W.Wr.letters m.k) m = true) : W.Wr.check m = 0 := by
  unfold W.Wr.check
  rw [if_neg (by omega), if_neg h2, if_pos h3]
theorem may_n {k : Int} {l : W.Wr.L} {n a b : Int} (ha : W.Wr.least l = a) (hb : W.Wr.most k l = b) (h1 : a ≤ n) (h2 : n ≤ b) (hl : l ≠ .R ∧ l ≠ .T ∧ l ≠ .P) : W.Wr.may k l ⟨n, 0, W.Wr.e0⟩ = true := by
  unfold W.Wr.may
  have hs : W.Wr.sz l ⟨n, 0, W.Wr.e0⟩ = n := by cases l <;> first | rfl | exact absurd rfl hl.2.1 | exact absurd rfl hl.2.2
  rw [hs, ha, hb, decide_eq_true (⟨h1, h2⟩ : a ≤ n ∧ n ≤ b), decide_eq_true hl.1]
  rfl
theorem may_t {k : Int} {t : ByteArray} (h : t.size ≤ 32) : W.Wr.may k .T ⟨0, 0, t⟩ = true := by
  unfold W.Wr.may
  have h1 : W.Wr.least .T ≤ W.Wr.sz .T ⟨0, 0, t⟩ ∧ W.Wr.sz .T ⟨0, 0, t⟩ ≤ W.Wr.most k .T := by
    show (0 : Int) ≤ (t.size : Int) ∧ (t.size : Int) ≤ 32
    omega
  rw [decide_eq_true h1, decide_eq_true (show W.Wr.L.T ≠ .R by decide)]
  rfl
theorem chunk_ok {i : Nat} {t : ByteArray} (hi : i < 32) (ht : t.size ≤ 32) : W.Wr.check ⟨5, 0, 0, 0, 1, (i : Int), 0, 0, 0, t, W.Wr.e0⟩ = 0 := by
  refine chk_ok _ (by simp only; omega) (fun h => absurd (show (5 : Int) = 6 from h.1) (by decide)) ?_
  show (W.Wr.may 5 .B ⟨1, 0, W.Wr.e0⟩ && (W.Wr.may 5 .I ⟨(i : Int), 0, W.Wr.e0⟩ && (W.Wr.may 5 .T ⟨0, 0, t⟩ && decide (W.Wr.zM 5 = W.Wr.zM 5)))) = true
  rw [may_n (l := .B) rfl rfl (by decide) (by decide) (by decide), may_n (l := .I) (a := 0) (b := 31) rfl rfl (by omega) (by omega) (by decide), may_t ht, decide_eq_true rfl]
  rfl
theorem piece_ok {i : Nat} {t : ByteArray} (hi : i < 16) (ht : t.size ≤ 32) : W.Wr.check ⟨6, 0, 0, 1, 1, (i : Int) + 1, 0, 0, 0, t, W.Wr.e0⟩ = 0 := by
  refine chk_ok _ (by simp only; omega) (fun h => by have := h.2.1; simp only at this; omega) ?_
  show (W.Wr.may 6 .J ⟨1, 0, W.Wr.e0⟩ && (W.Wr.may 6 .B ⟨1, 0, W.Wr.e0⟩ && (W.Wr.may 6 .I ⟨(i : Int) + 1, 0, W.Wr.e0⟩ && (W.Wr.may 6 .T ⟨0, 0, t⟩ && decide (W.Wr.zM 6 = W.Wr.zM 6))))) = true
  rw [may_n (l := .J) rfl rfl (by decide) (by decide) (by decide), may_n (l := .B) rfl rfl (by decide) (by decide) (by decide), may_n (l := .I) (a := 0) (b := 16) rfl rfl (by omega) (by omega) (by decide), may_t ht, decide_eq_true rfl]
  rfl
theorem took_ok {n : Nat} (hn : n ≤ 16) : W.Wr.check ⟨15, 0, 0, 1, 1, 0, (n : Int) + 1, 0, 0, W.Wr.e0, W.Wr.e0⟩ = 0 := by
  refine chk_ok _ (by simp only; omega) (fun h => absurd (show (15 : Int) = 6 from h.1) (by decide)) ?_
  show (W.Wr.may 15 .J ⟨1, 0, W.Wr.e0⟩ && (W.Wr.may 15 .B ⟨1, 0, W.Wr.e0⟩ && (W.Wr.may 15 .C ⟨(n : Int) + 1, 0, W.Wr.e0⟩ && decide (W.Wr.zM 15 = W.Wr.zM 15)))) = true
  rw [may_n (l := .J) rfl rfl (by decide) (by decide) (by decide), may_n (l := .B) rfl rfl (by decide) (by decide) (by decide), may_n (l := .C) (a := 0) (b := 17) rfl rfl (by omega) (by omega) (by decide), decide_eq_true rfl]
  rfl
theorem done_ok {n c : Nat} {b : Nat} (hn : n ≤ 32) (hc : c ≤ 7) (hb : W.Wr.canonB (c : Int) b = true) : W.Wr.check ⟨4, 1, 1, 0, 1, 0, (n : Int), (c : Int), b, W.Wr.e0, W.Wr.e0⟩ = 0 := by
  refine chk_ok _ (by simp only; omega) (fun h => absurd (show (4 : Int) = 6 from h.1) (by decide)) ?_
  show (W.Wr.may 4 .S ⟨1, 0, W.Wr.e0⟩ && (W.Wr.may 4 .N ⟨1, 0, W.Wr.e0⟩ && (W.Wr.may 4 .B ⟨1, 0, W.Wr.e0⟩ && (W.Wr.may 4 .C ⟨(n : Int), 0, W.Wr.e0⟩ && (W.Wr.may 4 .R ⟨(c : Int), b, W.Wr.e0⟩ && decide (W.Wr.zM 4 = W.Wr.zM 4)))))) = true
  have hR : W.Wr.may 4 .R ⟨(c : Int), b, W.Wr.e0⟩ = true := by
    unfold W.Wr.may
    have h1 : W.Wr.least .R ≤ W.Wr.sz .R ⟨(c : Int), b, W.Wr.e0⟩ ∧ W.Wr.sz .R ⟨(c : Int), b, W.Wr.e0⟩ ≤ W.Wr.most 4 .R := by
      show (0 : Int) ≤ (c : Int) ∧ (c : Int) ≤ 7
      omega
    rw [decide_eq_true h1, hb, Bool.or_true]
    rfl
  rw [may_n (l := .S) rfl rfl (by decide) (by decide) (by decide), may_n (l := .N) rfl rfl (by decide) (by decide) (by decide), may_n (l := .B) rfl rfl (by decide) (by decide) (by decide), may_n (l := .C) (a := 0) (b := 32) rfl rfl (by omega) (by omega) (by decide), hR, decide_eq_true rfl]
  rfl
theorem doM_seven (m : Mc) (x : In) (many : Nat) : (Im.doM m x many).1 ≤ 7 ∧ (Im.doM m x many).2.1.en = m.en := by
  refine doM_ind (P := fun d => d.1 ≤ 7 ∧ d.2.1.en = m.en) m x many ?_ ?_ ?_ ?_ ?_ ?_ ?_ ?_ ?_ ?_ ?_ ?_ ?_ ?_ ?_ ?_ ?_ ?_ ?_ ?_
  all_goals intro _
  all_goals exact ⟨by dsimp only; omega, rfl⟩
theorem settle_seven {m : Mc} (many fuel : Nat) (h : m.en ≤ 7) : (Im.settle m many fuel).en ≤ 7 := by
  unfold Im.settle
  repeat' split
  all_goals first | exact h | exact (by omega : (1 : Nat) ≤ 7)
theorem en_nxt {xs : List In} {f : Nat} {s : Mc × List (Nat × ByteArray)} (h : s.1.en ≤ 7) : (Im.nxt xs f s).1.en ≤ 7 := by
  by_cases ho : s.1.ov = true
  · unfold Im.nxt; rw [if_pos ho]; exact h
  rw [Bool.not_eq_true] at ho
  rw [nxt_live ho]
  have hst : Im.stp xs f s.1 = if (Im.doM (Im.ready s.1) xs[s.1.pl]! xs.length).1 = 0 then (Im.settle (Im.doM (Im.ready s.1) xs[s.1.pl]! xs.length).2.1 xs.length f, (Im.doM (Im.ready s.1) xs[s.1.pl]! xs.length).2.2) else (Im.trapped s.1 (Im.doM (Im.ready s.1) xs[s.1.pl]! xs.length).1, 0, ByteArray.empty) := rfl
  obtain ⟨h1, h2⟩ := doM_seven (Im.ready s.1) xs[s.1.pl]! xs.length
  have h3 : (Im.ready s.1).en = s.1.en := rfl
  show (Im.stp xs f s.1).1.en ≤ 7
  rw [hst]
  split
  · exact settle_seven _ _ (by rw [h2, h3]; exact h)
  · exact h1
theorem en_itr (xs : List In) (f : Nat) : ∀ k, (Im.itr xs f Im.m0 k).1.en ≤ 7
  | 0 => Nat.zero_le 7
  | k + 1 => en_nxt (en_itr xs f k)
theorem check_zz {f : Nat} {xs : List In} (hp : Pok f xs) (hE : (Pg.checkE (f : Int) xs).1 = 0) : Pg.checkE (f : Int) xs = (0, 0) := by
  have h1 := hp.f1; have h2 := hp.f2; have h3 := hp.l1; have h4 := hp.l2
  unfold Pg.checkE at hE ⊢
  rw [if_neg (by omega), if_neg (by omega)] at hE ⊢
  exact goE_ok _ _ _ hE
/-- what a program tells, as the messages want it -/
structure Fitt (I : Mc × List (Nat × ByteArray)) : Prop where
  c : (Im.chk I.2).length ≤ 32
  p : (Im.pcs I.2).length ≤ 16
  ct : ∀ t ∈ Im.chk I.2, t.size ≤ 32
  pt : ∀ t ∈ Im.pcs I.2, t.size ≤ 32
  rc : Im.resC I.1 ≤ 7
  rb : W.Wr.canonB (Im.resC I.1 : Int) (Im.resB I.1) = true
  bb : Im.resB I.1 < 18446744073709551616
theorem fitt_of {f : Nat} {xs : List In} (hp : Pok f xs) : Fitt (Im.end_ xs f) := by
  have ht := told_itr xs f f
  have ho := itr_ok (m0_ok xs.length f hp.l1 hp.f1) hp.good f
  have he := en_itr xs f f
  have hI : Im.itr xs f Im.m0 f = Im.end_ xs f := rfl
  rw [hI] at ht ho he
  generalize Im.end_ xs f = I at *
  have hrb : Im.resB I.1 < 18446744073709551616 ∧ W.Wr.canonB (Im.resC I.1 : Int) (Im.resB I.1) = true := by
    unfold Im.resB Im.resC
    by_cases hq : I.1.ov = true ∧ I.1.en = 0
    · rw [if_pos hq, if_pos hq]
      have hw := get_wd ho.wR 0
      refine ⟨hw.1, ?_⟩
      have h2 := hw.2
      unfold W.Wr.canonB
      rw [if_neg (by decide)]
      refine decide_eq_true ?_
      unfold Gn.canonW at h2
      split at h2
      · exact .inr h2.symm
      · rename_i h3; exact .inl (by omega)
    · rw [if_neg hq, if_neg hq]
      refine ⟨by decide, ?_⟩
      unfold W.Wr.canonB
      split
      · rfl
      · exact decide_eq_true (.inl (by decide))
  refine ⟨by rw [ht.c]; exact ho.ch, by rw [ht.p]; exact ho.pc, fun t hm => ?_, fun t hm => ?_, by rw [resC_en]; exact he, hrb.2, hrb.1⟩
  · unfold Im.chk at hm
    obtain ⟨a, ha, rfl⟩ := List.mem_map.1 hm
    exact ht.t a (List.mem_filter.1 ha).1
  · unfold Im.pcs at hm
    obtain ⟨a, ha, rfl⟩ := List.mem_map.1 hm
    exact ht.t a (List.mem_filter.1 ha).1
end Go.Proofs.YtoiibpkfpeceeaaGreatDoor
end

section
namespace Go.Proofs.YtoiibpkfpeceeaaGreatDoor
open Go.RowKit Go.Shelf

theorem strs_cell {w : World} {B n g cap : Nat} {l : List ByteArray} (h : w.ownsRow B 9 1 (.slice (some ⟨g, 0, none⟩) n cap) n (Im.strs l)) {k : Nat} {t : ByteArray} (hk : l[k]? = some t) : w.cell? ⟨g, k, none⟩ = some (.string t) := by
  have e1 := h.cells (g := g) rfl k (.string t) (by unfold Im.strs; rw [List.getElem?_map, hk]; rfl)
  rw [Addr.add_lit, Nat.zero_add] at e1
  exact e1
set_option maxRecDepth 20000 in
set_option maxHeartbeats 8000000 in
theorem topFits_walk (fuel : Int) (xs : List In) (hx : ∀ x ∈ xs, x.Fits) (v : Value) (w : World) (h : Cd w v xs) (hL : Libs w) :
    Calls Tryz.prog 3 #[.agg #[.int .i64 fuel, v]] w fun e w' => e = .returned (.bool true) ∧ Below w.heap.size w w' := by
  have HL := hide hL
  obtain ⟨adp, capp, hv, _⟩ := id h
  subst hv
  by_cases hE : (Pg.checkE fuel xs).1 = 0
  · obtain ⟨f, rfl, hp⟩ := pok_of hx hE
    have hc := check_zz hp hE
    have HF := hide (fitt_of hp)
    have HW := hide (whole_ok hx (h.below (below_one' w (.cells #[.int .i64 (f : Int), .slice adp xs.length capp] 24)) (Nat.le_refl _)) hc hp (Tbs.of (hL.below (below_one' w _) (Nat.le_refl _))))
    clear hE hp hc h hL hx
    generalize Im.end_ xs f = I at *
    go_enter Tryz.func3, Tryz.ntmps3
    go_wp2_with fail
    refine HW.out.mono ?_
    rintro e w1 ⟨o, rfl, ⟨cv, pv, rfl, hcv, hpv⟩, hb1⟩
    obtain ⟨adc, capc, hvc⟩ := rown_slice hcv
    obtain ⟨adq, capq, hvq⟩ := rown_slice hpv
    subst hvc; subst hvq
    have HC := hide hcv
    have HP := hide hpv
    have HB1 := hide (below_of' (below_one' w _) hb1)
    have hcl := HF.out.c
    have hpl := HF.out.p
    have hrc := HF.out.rc
    have hbb := HF.out.bb
    have HCt : Hid (∀ (k : Nat) (t : ByteArray), (Im.chk I.2)[k]? = some t → t.size ≤ 32) := hide fun k t hk => HF.out.ct t (List.mem_of_getElem? hk)
    have HPt : Hid (∀ (k : Nat) (t : ByteArray), (Im.pcs I.2)[k]? = some t → t.size ≤ 32) := hide fun k t hk => HF.out.pt t (List.mem_of_getElem? hk)
    have HRb := hide HF.out.rb
    generalize Im.chk I.2 = Cs at *
    generalize Im.pcs I.2 = Ps at *
    generalize Im.resC I.1 = rc at *
    generalize Im.resB I.1 = rb at *
    generalize (I.1.dn : Int) = dn at *
    clear hcv hpv hb1 HW HF
    go_wp2_with fail
    refine (reck_any _ (HL.out.below (below_of' HB1.out (below_one' w1 _)) (Nat.le_refl _))).mono ?_
    rintro e w2 ⟨rfl, hb2⟩
    have hO2 := (hb2.block w1.heap.size (by simp)).trans (heap_alloc_new w1 _)
    have hb12 : Below w1.heap.size w1 w2 := below_of' (below_one' w1 _) hb2
    have HO2 := hide hO2
    have HB2 := hide (below_of' HB1.out hb12)
    have HC2 : Hid (∀ (k : Nat) (t : ByteArray), Cs[k]? = some t → ∃ g, adc = some ⟨g, 0, none⟩ ∧ g < w2.heap.size ∧ w2.cell? ⟨g, k, none⟩ = some (.string t)) := hide fun k t hk => by
      have hn : 0 < Cs.length := by have := (List.getElem?_eq_some_iff.1 hk).1; omega
      obtain ⟨g, cap, hg⟩ := own_some HC.out hn
      injection hg with hg _ hg2
      subst hg; subst hg2
      have h1 := strs_cell HC.out hk
      have hlt := World.block_lt_of_cell? _ _ h1
      exact ⟨g, rfl, Nat.lt_of_lt_of_le hlt hb12.size, (hb12.cell (p := ⟨g, k, none⟩) hlt).trans h1⟩
    have HP2 : Hid (∀ (k : Nat) (t : ByteArray), Ps[k]? = some t → ∃ g, adq = some ⟨g, 0, none⟩ ∧ g < w2.heap.size ∧ w2.cell? ⟨g, k, none⟩ = some (.string t)) := hide fun k t hk => by
      have hn : 0 < Ps.length := by have := (List.getElem?_eq_some_iff.1 hk).1; omega
      obtain ⟨g, cap, hg⟩ := own_some HP.out hn
      injection hg with hg _ hg2
      subst hg; subst hg2
      have h1 := strs_cell HP.out hk
      have hlt := World.block_lt_of_cell? _ _ h1
      exact ⟨g, rfl, Nat.lt_of_lt_of_le hlt hb12.size, (hb12.cell (p := ⟨g, k, none⟩) hlt).trans h1⟩
    obtain ⟨X, hX⟩ : ∃ X, w1.heap.size = X := ⟨_, rfl⟩
    rw [hX] at HO2 ⊢
    have hXl : X < w2.heap.size := lt_of_block HO2.out
    clear hb2 hO2 hb12 HB1 HC HP HL hX
    go_wp2_with fail
    go_loopw [5] (fun t wr => ∃ i : Nat, t = .int .i64 (i : Int) ∧ i ≤ Cs.length ∧ Hid (Below w2.heap.size w2 wr)) (fun t _ => Cs.length - (intOf t).toNat)
    case atStart => exact ⟨0, rfl, Nat.zero_le _, hide (Below.refl _ _)⟩
    case round =>
      obtain ⟨i, rfl, hi, HB⟩ := hrel
      obtain ⟨o0, o1, o2, o3, o4, -⟩ := five_of ((HB.out.block X hXl).trans HO2.out)
      have hXr : X < wr.heap.size := Nat.lt_of_lt_of_le hXl HB.out.size
      by_cases hil : i < Cs.length
      · obtain ⟨t, ht⟩ : ∃ t, Cs[i]? = some t := ⟨_, List.getElem?_eq_getElem hil⟩
        obtain ⟨g, hg, hgl, hgc⟩ := HC2.out i t ht
        subst hg
        have cg := (HB.out.cell (p := ⟨g, i, none⟩) hgl).trans hgc
        have hgr : g < wr.heap.size := Nat.lt_of_lt_of_le hgl HB.out.size
        have HK : Hid (∀ V, Calls Tryz.prog 6 #[.agg #[.int .i64 5, .int .i64 0, .int .i64 0, .int .i64 0, .int .i64 1, .int .i64 (i : Int), .int .i64 0, .int .i64 0, .int .u64 0, .string t, .string ⟨#[]⟩]] V fun e w' => e = .returned (.int .i64 0) ∧ Below V.heap.size V w') := hide fun V => by
          have h1 := W.check_any ⟨5, 0, 0, 0, 1, (i : Int), 0, 0, 0, t, W.Wr.e0⟩ (show (0 : Nat) < 18446744073709551616 by decide) V
          rw [chunk_ok (by omega) (HCt.out i t ht)] at h1
          exact h1
        clear ht hgc
        go_wp2_with fail
        refine (HK.out _).mono ?_
        rintro e w3 ⟨rfl, hb3⟩
        have HB3 := hide (HB.out.trans (hb3.mono HB.out.size))
        clear hb3 HK
        go_wp2_with fail
        go_roundw
        case rel => exact ⟨i + 1, by go_num, by omega, HB3⟩
        case measure => simp only [intOf]; omega
      · go_wp2_with fail
        have HBa := HB
        clear HB o0 o1 o2 o3 o4 hXr
        go_loopw [6] (fun t wr => ∃ i : Nat, t = .int .i64 (i : Int) ∧ i ≤ Ps.length ∧ Hid (Below w2.heap.size w2 wr)) (fun t _ => Ps.length - (intOf t).toNat)
        case atStart => exact ⟨0, rfl, Nat.zero_le _, HBa⟩
        case round =>
          clear HBa
          obtain ⟨j, rfl, hj, HB⟩ := hrel
          obtain ⟨o0, o1, o2, o3, o4, -⟩ := five_of ((HB.out.block X hXl).trans HO2.out)
          have hXr : X < wr.heap.size := Nat.lt_of_lt_of_le hXl HB.out.size
          by_cases hjl : j < Ps.length
          · obtain ⟨t, ht⟩ : ∃ t, Ps[j]? = some t := ⟨_, List.getElem?_eq_getElem hjl⟩
            obtain ⟨g, hg, hgl, hgc⟩ := HP2.out j t ht
            subst hg
            have cg := (HB.out.cell (p := ⟨g, j, none⟩) hgl).trans hgc
            have hgr : g < wr.heap.size := Nat.lt_of_lt_of_le hgl HB.out.size
            have HK : Hid (∀ V, Calls Tryz.prog 6 #[.agg #[.int .i64 6, .int .i64 0, .int .i64 0, .int .i64 1, .int .i64 1, .int .i64 ((j : Int) + 1), .int .i64 0, .int .i64 0, .int .u64 0, .string t, .string ⟨#[]⟩]] V fun e w' => e = .returned (.int .i64 0) ∧ Below V.heap.size V w') := hide fun V => by
              have h1 := W.check_any ⟨6, 0, 0, 1, 1, (j : Int) + 1, 0, 0, 0, t, W.Wr.e0⟩ (show (0 : Nat) < 18446744073709551616 by decide) V
              rw [piece_ok (by omega) (HPt.out j t ht)] at h1
              exact h1
            clear ht hgc
            go_wp2_with fail
            refine (HK.out _).mono ?_
            rintro e w3 ⟨rfl, hb3⟩
            have HB3 := hide (HB.out.trans (hb3.mono HB.out.size))
            clear hb3 HK
            go_wp2_with fail
            go_roundw
            case rel => exact ⟨j + 1, by go_num, by omega, HB3⟩
            case measure => simp only [intOf]; omega
          · have HK : Hid (∀ V, Calls Tryz.prog 6 #[.agg #[.int .i64 15, .int .i64 0, .int .i64 0, .int .i64 1, .int .i64 1, .int .i64 0, .int .i64 ((Ps.length : Int) + 1), .int .i64 0, .int .u64 0, .string ⟨#[]⟩, .string ⟨#[]⟩]] V fun e w' => e = .returned (.int .i64 0) ∧ Below V.heap.size V w') := hide fun V => by
              have h1 := W.check_any ⟨15, 0, 0, 1, 1, 0, (Ps.length : Int) + 1, 0, 0, W.Wr.e0, W.Wr.e0⟩ (show (0 : Nat) < 18446744073709551616 by decide) V
              rw [took_ok hpl] at h1
              exact h1
            have HD : Hid (∀ V, Calls Tryz.prog 6 #[.agg #[.int .i64 4, .int .i64 1, .int .i64 1, .int .i64 0, .int .i64 1, .int .i64 0, .int .i64 (Cs.length : Int), .int .i64 (rc : Int), .int .u64 (rb : Int), .string ⟨#[]⟩, .string ⟨#[]⟩]] V fun e w' => e = .returned (.int .i64 0) ∧ Below V.heap.size V w') := hide fun V => by
              have h1 := W.check_any ⟨4, 1, 1, 0, 1, 0, (Cs.length : Int), (rc : Int), rb, W.Wr.e0, W.Wr.e0⟩ hbb V
              rw [done_ok hcl hrc HRb.out] at h1
              exact h1
            go_wp2_with fail
            refine (HK.out _).mono ?_
            rintro e w3 ⟨rfl, hb3⟩
            have HB3 := hide (HB.out.trans (hb3.mono HB.out.size))
            obtain ⟨o0, o1, o2, o3, o4, -⟩ := five_of ((HB3.out.block X hXl).trans HO2.out)
            have hXr : X < w3.heap.size := Nat.lt_of_lt_of_le hXl HB3.out.size
            clear hb3 HK HB
            go_wp2_with fail
            refine (HD.out _).mono ?_
            rintro e w4 ⟨rfl, hb4⟩
            have HB4 := hide (HB3.out.trans (hb4.mono HB3.out.size))
            clear hb4 HD HB3
            go_wp2_with fail
            go_ret
            exact ⟨by simp, below_of' HB2.out HB4.out⟩
  · have HW := hide (whole_no hx (h.below (below_one' w (.cells #[.int .i64 fuel, .slice adp xs.length capp] 24)) (Nat.le_refl _)) hE)
    generalize (Pg.checkE fuel xs).1 = E at *
    have eE : (E != 0) = true := by simpa using hE
    clear h hL hx hE
    go_enter Tryz.func3, Tryz.ntmps3
    go_wp2_with fail
    refine HW.out.mono ?_
    rintro e w1 ⟨rfl, hb1⟩
    have HB1 := hide (below_of' (below_one' w _) hb1)
    clear hb1 HW
    go_wp2_with fail
    refine (reck_any _ (HL.out.below (below_of' HB1.out (below_one' w1 _)) (Nat.le_refl _))).mono ?_
    rintro e w2 ⟨rfl, hb2⟩
    have HB2 := hide (below_of' HB1.out (below_of' (below_one' w1 _) hb2))
    clear hb2 HB1
    go_wp2_with fail
    go_ret
    exact ⟨rfl, HB2.out⟩
end Go.Proofs.YtoiibpkfpeceeaaGreatDoor
end
