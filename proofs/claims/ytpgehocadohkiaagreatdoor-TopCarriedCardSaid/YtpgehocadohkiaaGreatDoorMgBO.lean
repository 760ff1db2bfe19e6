import Derived.Test.YtpgehocadohkiaaGreatDoorMgAX
import Derived.Test.YtpgehocadohkiaaGreatDoorMgBH
import Derived.Test.YtpgehocadohkiaaGreatDoorMgBM
import Derived.Test.YtpgehocadohkiaaGreatDoorMgBN

section
namespace Go.Proofs.YtpgehocadohkiaaGreatDoor
open Go.RowKit Go.Shelf

theorem cd_nil (w : World) : Cd w (.slice none 0 0) [] := ⟨none, 0, rfl, fun h => absurd h (Nat.lt_irrefl _)⟩
theorem exI_is : exI = Im.xsE := rfl
theorem Tbs.of {w : World} (h : Libs w) : Tbs w := ⟨h.tabs.1, h.tabs.2⟩
def hiMsg : W.Wr.Ms := W.Wr.zM 1
set_option maxRecDepth 20000 in
theorem hi_decode : W.Wr.decode W.limP ⟨#[1]⟩ = (hiMsg, 0) := by kernel_rfl
theorem hi_c : W.msgC hiMsg = #[.int .i64 1, .int .i64 0, .int .i64 0, .int .i64 0, .int .i64 0, .int .i64 0, .int .i64 0, .int .i64 0, .int .u64 0, .string ⟨#[]⟩, .string ⟨#[]⟩] := rfl
theorem below_one' (w : World) (o : Obj) : Below w.heap.size w (w.alloc o) := (Below.refl _ _).alloc (Nat.le_refl _) o
theorem below_of' {w W w' : World} (h : Below w.heap.size w W) (k : Below W.heap.size W w') : Below w.heap.size w w' := h.trans (k.mono h.size)

set_option maxRecDepth 20000 in
set_option maxHeartbeats 4000000 in
theorem reck_any (w : World) (hL : Libs w) : Calls Tryz.prog 7 #[] w fun e w' => e = .returned (.bool true) ∧ Below w.heap.size w w' := by
  have HL := hide hL
  clear hL
  go_enter Tryz.func7, Tryz.ntmps7
  go_wp2_with fail
  refine (parseText_any _ (by decide) w HL.out).mono ?_
  rw [ex_parse]
  rintro e w1 ⟨v1, rfl, hr1, hb1⟩
  dsimp only
  have hC1 : Cd w1 v1 exI := own_cd hr1
  obtain ⟨ad1, cap1, hv1, _⟩ := id hC1
  subst hv1
  have HB1 : Hid (Below w.heap.size w (w1.alloc (.cells #[.int .i64 9, .slice ad1 exI.length cap1] 24))) := below_of' hb1 (below_one' w1 _)
  have HW : Hid (∀ W, Below w1.heap.size w1 W → Calls Tryz.prog 4 #[.agg #[.int .i64 9, .slice ad1 exI.length cap1]] W fun e w' => ∃ g cap ad cap2, e = .returned (.tuple #[.agg #[.int .i64 0, .int .u64 4609434218613702656, .slice (some ⟨g, 0, none⟩) 1 cap, .slice ad 0 cap2, .int .i64 3], .int .i64 0]) ∧ w'.cell? ⟨g, 0, none⟩ = some (.string Im.t31) ∧ Below W.heap.size W w') := hide fun W hW => wholeE W _ (by rw [← exI_is]; exact hC1.below hW (Nat.le_refl _)) (Tbs.of (HL.out.below (hb1.trans (hW.mono hb1.size)) (Nat.le_refl _)))
  clear hr1 hb1 hC1
  go_wp2_with fail
  refine (HW.out _ (below_one' w1 _)).mono ?_
  rintro e w2 ⟨g, cap, ad, cap2, rfl, hc2, hb2⟩
  have HB2 := hide (below_of' HB1.out hb2)
  have hg2 : g < w2.heap.size := World.block_lt_of_cell? _ _ hc2
  clear HB1 hb2 HW
  go_wp2_with fail
  refine (W.decode_any _ _ (by decide)).mono ?_
  rw [hi_decode]
  dsimp only
  rw [hi_c]
  rintro e w3 ⟨rfl, hb3⟩
  have hO3 := (hb3.block w2.heap.size (by simp)).trans (heap_alloc_new w2 _)
  obtain ⟨-, -, o2, -, o4, -⟩ := five_of hO3
  have hb23 : Below w2.heap.size w2 w3 := below_of' (below_one' w2 _) hb3
  have c3 : w3.cell? ⟨g, 0, none⟩ = some (.string Im.t31) := (hb23.cell (p := ⟨g, 0, none⟩) hg2).trans hc2
  have HB3 := hide (below_of' HB2.out hb23)
  have hg3 : g < w3.heap.size := Nat.lt_of_lt_of_le hg2 hb23.size
  have hp3 : w2.heap.size < w3.heap.size := lt_of_block hO3
  have t31 := t31_is
  generalize Im.t31 = tt at *
  clear HB2 hb3 hb23 hO3 hc2 hg2 HL
  go_wp2_with fail
  go_ret
  exact ⟨by simp, below_of' HB3.out (below_one' w3 _)⟩
end Go.Proofs.YtpgehocadohkiaaGreatDoor
end

section
namespace Go.Proofs.YtpgehocadohkiaaGreatDoor
open Go.RowKit Go.Shelf
set_option maxRecDepth 20000

/-- an offer -/
def offer (a b c : Int) (P : ByteArray) : W.Wr.Ms := ⟨9, a, b, 1, c, 0, 0, 0, 0, W.Wr.e0, P⟩
theorem offer_ok {a b c : Int} {P : ByteArray} (ha : 1 ≤ a ∧ a ≤ 1099511627776) (hb : 1 ≤ b ∧ b ≤ 1099511627776) (hc : 1 ≤ c ∧ c ≤ 1099511627776) (h1 : 1 ≤ P.size) (h2 : P.size ≤ 1024) : W.Wr.check (offer a b c P) = 0 := by
  have hn : ∀ (l : W.Wr.L) (n lo hi : Int), W.Wr.least l = lo → W.Wr.most 9 l = hi → lo ≤ n → n ≤ hi → l ≠ .R ∧ l ≠ .T ∧ l ≠ .P → W.Wr.may 9 l ⟨n, 0, W.Wr.e0⟩ = true := by
    intro l n lo hi e1 e2 k1 k2 hl
    unfold W.Wr.may
    have hs : W.Wr.sz l ⟨n, 0, W.Wr.e0⟩ = n := by cases l <;> first | rfl | exact absurd rfl hl.2.1 | exact absurd rfl hl.2.2
    rw [hs, e1, e2, decide_eq_true (⟨k1, k2⟩ : lo ≤ n ∧ n ≤ hi), decide_eq_true hl.1]
    rfl
  have hP : W.Wr.may 9 .P ⟨0, 0, P⟩ = true := by
    unfold W.Wr.may
    have h3 : W.Wr.least .P ≤ W.Wr.sz .P ⟨0, 0, P⟩ ∧ W.Wr.sz .P ⟨0, 0, P⟩ ≤ W.Wr.most 9 .P := by
      show (1 : Int) ≤ (P.size : Int) ∧ (P.size : Int) ≤ 1024
      omega
    rw [decide_eq_true h3, decide_eq_true (show W.Wr.L.P ≠ .R by decide)]
    rfl
  unfold W.Wr.check
  rw [if_neg (show ¬ ((offer a b c P).k < 1 ∨ 16 < (offer a b c P).k) from (by decide : ¬ ((9 : Int) < 1 ∨ (16 : Int) < 9))), if_neg (fun h => absurd (show (9 : Int) = 6 from h.1) (by decide)), if_pos]
  show (W.Wr.may 9 .S ⟨a, 0, W.Wr.e0⟩ && (W.Wr.may 9 .N ⟨b, 0, W.Wr.e0⟩ && (W.Wr.may 9 .J ⟨1, 0, W.Wr.e0⟩ && (W.Wr.may 9 .B ⟨c, 0, W.Wr.e0⟩ && (W.Wr.may 9 .P ⟨0, 0, P⟩ && decide (W.Wr.zM 9 = W.Wr.zM 9)))))) = true
  rw [hn .S a 1 1099511627776 rfl rfl ha.1 ha.2 (by decide), hn .N b 1 1099511627776 rfl rfl hb.1 hb.2 (by decide), hn .J 1 1 8 rfl rfl (by decide) (by decide) (by decide), hn .B c 1 1099511627776 rfl rfl hc.1 hc.2 (by decide), hP, decide_eq_true rfl]
  rfl
/-- a program's bytes within an offer, and out of it -/
theorem offer_back {a b c : Int} {P : ByteArray} (h : W.Wr.check (offer a b c P) = 0) : W.Wr.decode W.limP (W.encB (offer a b c P)) = (offer a b c P, 0) := by
  have hB : W.encB (offer a b c P) = ⟨(W.Wr.bytes (offer a b c P)).toArray⟩ := if_pos h
  have hl := W.Wr.bytes_len h
  exact W.Wr.decode_there W.lim_p (show (0 : Nat) < 18446744073709551616 by decide) h (by rw [hB]; show (W.Wr.bytes (offer a b c P)).toArray.size ≤ 2048; simpa using hl) (by rw [hB])
theorem enc_size {a b c : Int} {P : ByteArray} (h : W.Wr.check (offer a b c P) = 0) : (W.encB (offer a b c P)).size ≤ 2048 := by
  have hB : W.encB (offer a b c P) = ⟨(W.Wr.bytes (offer a b c P)).toArray⟩ := if_pos h
  have hl := W.Wr.bytes_len h
  rw [hB]
  show (W.Wr.bytes (offer a b c P)).toArray.size ≤ 2048
  simpa using hl
theorem pack_some {fuel : Int} {xs : List In} (hx : ∀ x ∈ xs, x.Fits) (h : (Pg.checkE fuel xs).1 = 0) : 1 ≤ (Pg.packS fuel xs).size := by
  rcases Nat.eq_zero_or_pos (Pg.packS fuel xs).size with h0 | h0
  · have h1 := (unpack_pack hx h).2
    have e : Pg.packS fuel xs = ⟨#[]⟩ := by
      cases hp : Pg.packS fuel xs with
      | mk d =>
        rw [hp] at h0
        have : d.size = 0 := h0
        rw [Array.eq_empty_of_size_eq_zero this]
    rw [e, ex_empty] at h1
    injection h1 with _ h1
    exact absurd h1 (by decide)
  · exact h0
theorem off_of {H : Type} {enc : TypeId × Value → H} {W : World} {base : Nat} {v : Value} {d : DataW H} {ps : List MemPlace} (hv : Value.okWide Tryz.prog W .any base 26 v) (h : DataW.Trod enc Tryz.prog W 0 (fun _ => true) true 26 v d ps) :
    ∃ a b c : Int, v = .agg #[.int .i64 a, .int .i64 b, .int .i64 c] := by
  obtain ⟨v0, v1, v2, y0, y1, y2, k, rfl, rfl, rfl, t0, t1, t2⟩ := Go.Joins.open_agg3 Tryz.underlying26 (by kernel_rfl) (by kernel_rfl) hv h
  obtain ⟨z0, e0, _, _⟩ := DataW.trod_int Tryz.underlying3 t0
  obtain ⟨z1, e1, _, _⟩ := DataW.trod_int Tryz.underlying3 t1
  obtain ⟨z2, e2, _, _⟩ := DataW.trod_int Tryz.underlying3 t2
  simp only [List.cons.injEq, and_true] at e0 e1 e2
  subst e0; subst e1; subst e2
  exact ⟨z0, z1, z2, rfl⟩
end Go.Proofs.YtpgehocadohkiaaGreatDoor
end

section
namespace Go.Proofs.YtpgehocadohkiaaGreatDoor
open Go.RowKit Go.Shelf

theorem chk_ok (m : W.Wr.Ms) (h1 : 1 ≤ m.k ∧ m.k ≤ 16) (h2 : ¬ (m.k = 6 ∧ m.ix = 0 ∧ m.tx.size ≠ 0)) (h3 : W.Wr.chk (W.Wr.letters m.k) m = true) : W.Wr.check m = 0 := by
  unfold W.Wr.check
  rw [if_neg (by omega), if_neg h2, if_pos h3]
theorem may_n {k : Int} {l : W.Wr.L} {n a b : Int} (ha : W.Wr.least l = a) (hb : W.Wr.most k l = b) (h1 : a ≤ n) (h2 : n ≤ b) (hl : l ≠ .R ∧ l ≠ .T ∧ l ≠ .P) : W.Wr.may k l ⟨n, 0, W.Wr.e0⟩ = true := by
  unfold W.Wr.may
  have hs : W.Wr.sz l ⟨n, 0, W.Wr.e0⟩ = n := by cases l <;> first | rfl | exact absurd rfl hl.2.1 | exact absurd rfl hl.2.2
  rw [hs, ha, hb, decide_eq_true (⟨h1, h2⟩ : a ≤ n ∧ n ≤ b), decide_eq_true hl.1]
  rfl
theorem may_t {k : Int} {t : ByteArray} (h : t.size ≤ 32) : W.Wr.may k .T ⟨0, 0, t⟩ = true := by
  unfold W.Wr.may
  have h1 : W.Wr.least .T ≤ W.Wr.sz .T ⟨0, 0, t⟩ ∧ W.Wr.sz .T ⟨0, 0, t⟩ ≤ W.Wr.most k .T := by
    show (0 : Int) ≤ (t.size : Int) ∧ (t.size : Int) ≤ 32
    omega
  rw [decide_eq_true h1, decide_eq_true (show W.Wr.L.T ≠ .R by decide)]
  rfl
theorem chunk_ok {i : Nat} {t : ByteArray} (hi : i < 32) (ht : t.size ≤ 32) : W.Wr.check ⟨5, 0, 0, 0, 1, (i : Int), 0, 0, 0, t, W.Wr.e0⟩ = 0 := by
  refine chk_ok _ (by simp only; omega) (fun h => absurd (show (5 : Int) = 6 from h.1) (by decide)) ?_
  show (W.Wr.may 5 .B ⟨1, 0, W.Wr.e0⟩ && (W.Wr.may 5 .I ⟨(i : Int), 0, W.Wr.e0⟩ && (W.Wr.may 5 .T ⟨0, 0, t⟩ && decide (W.Wr.zM 5 = W.Wr.zM 5)))) = true
  rw [may_n (l := .B) rfl rfl (by decide) (by decide) (by decide), may_n (l := .I) (a := 0) (b := 31) rfl rfl (by omega) (by omega) (by decide), may_t ht, decide_eq_true rfl]
  rfl
theorem piece_ok {i : Nat} {t : ByteArray} (hi : i < 16) (ht : t.size ≤ 32) : W.Wr.check ⟨6, 0, 0, 1, 1, (i : Int) + 1, 0, 0, 0, t, W.Wr.e0⟩ = 0 := by
  refine chk_ok _ (by simp only; omega) (fun h => by have := h.2.1; simp only at this; omega) ?_
  show (W.Wr.may 6 .J ⟨1, 0, W.Wr.e0⟩ && (W.Wr.may 6 .B ⟨1, 0, W.Wr.e0⟩ && (W.Wr.may 6 .I ⟨(i : Int) + 1, 0, W.Wr.e0⟩ && (W.Wr.may 6 .T ⟨0, 0, t⟩ && decide (W.Wr.zM 6 = W.Wr.zM 6))))) = true
  rw [may_n (l := .J) rfl rfl (by decide) (by decide) (by decide), may_n (l := .B) rfl rfl (by decide) (by decide) (by decide), may_n (l := .I) (a := 0) (b := 16) rfl rfl (by omega) (by omega) (by decide), may_t ht, decide_eq_true rfl]
  rfl
theorem took_ok {n : Nat} (hn : n ≤ 16) : W.Wr.check ⟨15, 0, 0, 1, 1, 0, (n : Int) + 1, 0, 0, W.Wr.e0, W.Wr.e0⟩ = 0 := by
  refine chk_ok _ (by simp only; omega) (fun h => absurd (show (15 : Int) = 6 from h.1) (by decide)) ?_
  show (W.Wr.may 15 .J ⟨1, 0, W.Wr.e0⟩ && (W.Wr.may 15 .B ⟨1, 0, W.Wr.e0⟩ && (W.Wr.may 15 .C ⟨(n : Int) + 1, 0, W.Wr.e0⟩ && decide (W.Wr.zM 15 = W.Wr.zM 15)))) = true
  rw [may_n (l := .J) rfl rfl (by decide) (by decide) (by decide), may_n (l := .B) rfl rfl (by decide) (by decide) (by decide), may_n (l := .C) (a := 0) (b := 17) rfl rfl (by omega) (by omega) (by decide), decide_eq_true rfl]
  rfl
theorem done_ok {n c : Nat} {b : Nat} (hn : n ≤ 32) (hc : c ≤ 7) (hb : W.Wr.canonB (c : Int) b = true) : W.Wr.check ⟨4, 1, 1, 0, 1, 0, (n : Int), (c : Int), b, W.Wr.e0, W.Wr.e0⟩ = 0 := by
  refine chk_ok _ (by simp only; omega) (fun h => absurd (show (4 : Int) = 6 from h.1) (by decide)) ?_
  show (W.Wr.may 4 .S ⟨1, 0, W.Wr.e0⟩ && (W.Wr.may 4 .N ⟨1, 0, W.Wr.e0⟩ && (W.Wr.may 4 .B ⟨1, 0, W.Wr.e0⟩ && (W.Wr.may 4 .C ⟨(n : Int), 0, W.Wr.e0⟩ && (W.Wr.may 4 .R ⟨(c : Int), b, W.Wr.e0⟩ && decide (W.Wr.zM 4 = W.Wr.zM 4)))))) = true
  have hR : W.Wr.may 4 .R ⟨(c : Int), b, W.Wr.e0⟩ = true := by
    unfold W.Wr.may
    have h1 : W.Wr.least .R ≤ W.Wr.sz .R ⟨(c : Int), b, W.Wr.e0⟩ ∧ W.Wr.sz .R ⟨(c : Int), b, W.Wr.e0⟩ ≤ W.Wr.most 4 .R := by
      show (0 : Int) ≤ (c : Int) ∧ (c : Int) ≤ 7
      omega
    rw [decide_eq_true h1, hb, Bool.or_true]
    rfl
  rw [may_n (l := .S) rfl rfl (by decide) (by decide) (by decide), may_n (l := .N) rfl rfl (by decide) (by decide) (by decide), may_n (l := .B) rfl rfl (by decide) (by decide) (by decide), may_n (l := .C) (a := 0) (b := 32) rfl rfl (by omega) (by omega) (by decide), hR, decide_eq_true rfl]
  rfl
theorem doM_seven (m : Mc) (x : In) (many : Nat) : (Im.doM m x many).1 ≤ 7 ∧ (Im.doM m x many).2.1.en = m.en := by
  refine doM_ind (P := fun d => d.1 ≤ 7 ∧ d.2.1.en = m.en) m x many ?_ ?_ ?_ ?_ ?_ ?_ ?_ ?_ ?_ ?_ ?_ ?_ ?_ ?_ ?_ ?_ ?_ ?_ ?_ ?_
  all_goals intro _
  all_goals exact ⟨by dsimp only; omega, rfl⟩
theorem settle_seven {m : Mc} (many fuel : Nat) (h : m.en ≤ 7) : (Im.settle m many fuel).en ≤ 7 := by
  unfold Im.settle
  repeat' split
  all_goals first | exact h | exact (by omega : (1 : Nat) ≤ 7)
theorem en_nxt {xs : List In} {f : Nat} {s : Mc × List (Nat × ByteArray)} (h : s.1.en ≤ 7) : (Im.nxt xs f s).1.en ≤ 7 := by
  by_cases ho : s.1.ov = true
  · unfold Im.nxt; rw [if_pos ho]; exact h
  rw [Bool.not_eq_true] at ho
  rw [nxt_live ho]
  have hst : Im.stp xs f s.1 = if (Im.doM (Im.ready s.1) xs[s.1.pl]! xs.length).1 = 0 then (Im.settle (Im.doM (Im.ready s.1) xs[s.1.pl]! xs.length).2.1 xs.length f, (Im.doM (Im.ready s.1) xs[s.1.pl]! xs.length).2.2) else (Im.trapped s.1 (Im.doM (Im.ready s.1) xs[s.1.pl]! xs.length).1, 0, ByteArray.empty) := rfl
  obtain ⟨h1, h2⟩ := doM_seven (Im.ready s.1) xs[s.1.pl]! xs.length
  have h3 : (Im.ready s.1).en = s.1.en := rfl
  show (Im.stp xs f s.1).1.en ≤ 7
  rw [hst]
  split
  · exact settle_seven _ _ (by rw [h2, h3]; exact h)
  · exact h1
theorem en_itr (xs : List In) (f : Nat) : ∀ k, (Im.itr xs f Im.m0 k).1.en ≤ 7
  | 0 => Nat.zero_le 7
  | k + 1 => en_nxt (en_itr xs f k)
theorem check_zz {f : Nat} {xs : List In} (hp : Pok f xs) (hE : (Pg.checkE (f : Int) xs).1 = 0) : Pg.checkE (f : Int) xs = (0, 0) := by
  have h1 := hp.f1; have h2 := hp.f2; have h3 := hp.l1; have h4 := hp.l2
  unfold Pg.checkE at hE ⊢
  rw [if_neg (by omega), if_neg (by omega)] at hE ⊢
  exact goE_ok _ _ _ hE
/-- what a program tells, as the messages want it -/
structure Fitt (I : Mc × List (Nat × ByteArray)) : Prop where
  c : (Im.chk I.2).length ≤ 32
  p : (Im.pcs I.2).length ≤ 16
  ct : ∀ t ∈ Im.chk I.2, t.size ≤ 32
  pt : ∀ t ∈ Im.pcs I.2, t.size ≤ 32
  rc : Im.resC I.1 ≤ 7
  rb : W.Wr.canonB (Im.resC I.1 : Int) (Im.resB I.1) = true
  bb : Im.resB I.1 < 18446744073709551616
theorem fitt_of {f : Nat} {xs : List In} (hp : Pok f xs) : Fitt (Im.end_ xs f) := by
  have ht := told_itr xs f f
  have ho := itr_ok (m0_ok xs.length f hp.l1 hp.f1) hp.good f
  have he := en_itr xs f f
  have hI : Im.itr xs f Im.m0 f = Im.end_ xs f := rfl
  rw [hI] at ht ho he
  generalize Im.end_ xs f = I at *
  have hrb : Im.resB I.1 < 18446744073709551616 ∧ W.Wr.canonB (Im.resC I.1 : Int) (Im.resB I.1) = true := by
    unfold Im.resB Im.resC
    by_cases hq : I.1.ov = true ∧ I.1.en = 0
    · rw [if_pos hq, if_pos hq]
      have hw := get_wd ho.wR 0
      refine ⟨hw.1, ?_⟩
      have h2 := hw.2
      unfold W.Wr.canonB
      rw [if_neg (by decide)]
      refine decide_eq_true ?_
      unfold Gn.canonW at h2
      split at h2
      · exact .inr h2.symm
      · rename_i h3; exact .inl (by omega)
    · rw [if_neg hq, if_neg hq]
      refine ⟨by decide, ?_⟩
      unfold W.Wr.canonB
      split
      · rfl
      · exact decide_eq_true (.inl (by decide))
  refine ⟨by rw [ht.c]; exact ho.ch, by rw [ht.p]; exact ho.pc, fun t hm => ?_, fun t hm => ?_, by rw [resC_en]; exact he, hrb.2, hrb.1⟩
  · unfold Im.chk at hm
    obtain ⟨a, ha, rfl⟩ := List.mem_map.1 hm
    exact ht.t a (List.mem_filter.1 ha).1
  · unfold Im.pcs at hm
    obtain ⟨a, ha, rfl⟩ := List.mem_map.1 hm
    exact ht.t a (List.mem_filter.1 ha).1
end Go.Proofs.YtpgehocadohkiaaGreatDoor
end

section
namespace Go.Proofs.YtpgehocadohkiaaGreatDoor
open Go.RowKit Go.Shelf
set_option maxRecDepth 20000

abbrev pObj (f : Int) (u : Value) : Obj := .cells #[.int .i64 f, u] 24 (0, 0)
abbrev aObj (a b c : Int) : Obj := .cells #[.int .i64 a, .int .i64 b, .int .i64 c] 26 (0, 0)
abbrev oVal (rc rb : Nat) (pc : Option Addr) (n cc : Nat) (pp : Option Addr) (k cp dn : Nat) : Value := .agg #[.int .i64 (rc : Int), .int .u64 (rb : Int), .slice pc n cc, .slice pp k cp, .int .i64 (dn : Int)]
abbrev oObj (rc rb : Nat) (pc : Option Addr) (n cc : Nat) (pp : Option Addr) (k cp dn : Nat) : Obj := .cells #[.int .i64 (rc : Int), .int .u64 (rb : Int), .slice pc n cc, .slice pp k cp, .int .i64 (dn : Int)] 32 (0, 0)
/-- what Whole tells of a program that may be -/
theorem whole_t {w : World} {v : Value} {fuel : Nat} {xs : List In} (hx : ∀ x ∈ xs, x.Fits) (h : Cd w v xs) (hc : Pg.checkE fuel xs = (0, 0)) (hp : Pok fuel xs) (hT : Tbs w) :
    Calls Tryz.prog 4 #[.agg #[.int .i64 (fuel : Int), v]] w fun e w' => ∃ pc cc pp cp, e = .returned (.tuple #[oVal (Im.resC (Im.end_ xs fuel).1) (Im.resB (Im.end_ xs fuel).1) pc (Im.chk (Im.end_ xs fuel).2).length cc pp (Im.pcs (Im.end_ xs fuel).2).length cp (Im.end_ xs fuel).1.dn, .int .i64 0]) ∧
      OutS w' (oVal (Im.resC (Im.end_ xs fuel).1) (Im.resB (Im.end_ xs fuel).1) pc (Im.chk (Im.end_ xs fuel).2).length cc pp (Im.pcs (Im.end_ xs fuel).2).length cp (Im.end_ xs fuel).1.dn) (Im.resC (Im.end_ xs fuel).1) (Im.resB (Im.end_ xs fuel).1) (Im.end_ xs fuel).1.dn (Im.chk (Im.end_ xs fuel).2) (Im.pcs (Im.end_ xs fuel).2) ∧ Below w.heap.size w w' := by
  refine (whole_ok hx h hc hp hT).mono ?_
  rintro e w' ⟨o, rfl, ho, hb⟩
  have hs := out_s ho
  obtain ⟨cv, pv, rfl, h1, h2⟩ := id ho
  obtain ⟨pc, cc, e1⟩ := rown_slice h1
  obtain ⟨pp, cp, e2⟩ := rown_slice h2
  subst e1; subst e2
  exact ⟨pc, cc, pp, cp, rfl, hs, hb⟩
theorem end_len (xs : List In) (fuel : Nat) : (Im.end_ xs fuel).2.length ≤ fuel := itr_len _ _ _ _
/-- the boxes of the walk: the program, the offer's numbers, the outcome -/
structure Tc (w : World) (f a b c : Int) (u : Value) (X O rc rb : Nat) (pc : Option Addr) (n cc : Nat) (pp : Option Addr) (k cp dn : Nat) (Cs Ps : List ByteArray) (V : World) : Prop where
  pb : V.heap[X]? = some (pObj f u)
  ab : V.heap[X + 1]? = some (aObj a b c)
  ob : V.heap[O]? = some (oObj rc rb pc n cc pp k cp dn)
  os : OutS V (oVal rc rb pc n cc pp k cp dn) rc rb dn Cs Ps
  bl : Below w.heap.size w V
section
variable {w : World} {f a b c : Int} {u : Value} {X O rc rb : Nat} {pc : Option Addr} {n cc : Nat} {pp : Option Addr} {k cp dn : Nat} {Cs Ps : List ByteArray} {V V' : World}
theorem Tc.up (h : Tc w f a b c u X O rc rb pc n cc pp k cp dn Cs Ps V) (hb : Below V.heap.size V V') : Tc w f a b c u X O rc rb pc n cc pp k cp dn Cs Ps V' :=
  ⟨(hb.block _ (lt_of_block h.pb)).trans h.pb, (hb.block _ (lt_of_block h.ab)).trans h.ab, (hb.block _ (lt_of_block h.ob)).trans h.ob, h.os.below hb, below_of' h.bl hb⟩
theorem Tc.al (h : Tc w f a b c u X O rc rb pc n cc pp k cp dn Cs Ps V) (o : Obj) : Tc w f a b c u X O rc rb pc n cc pp k cp dn Cs Ps (V.alloc o) := h.up (below_one' V o)
theorem Tc.pp_ (h : Tc w f a b c u X O rc rb pc n cc pp k cp dn Cs Ps V) : V.cell? ⟨X, 0, none⟩ = some (.int .i64 f) ∧ V.cell? ⟨X, 1, none⟩ = some u := ⟨cell_of_block h.pb rfl, cell_of_block h.pb rfl⟩
theorem Tc.at_ (h : Tc w f a b c u X O rc rb pc n cc pp k cp dn Cs Ps V) : V.cell? ⟨X + 1, 0, none⟩ = some (.int .i64 a) ∧ V.cell? ⟨X + 1, 1, none⟩ = some (.int .i64 b) ∧ V.cell? ⟨X + 1, 2, none⟩ = some (.int .i64 c) := ⟨cell_of_block h.ab rfl, cell_of_block h.ab rfl, cell_of_block h.ab rfl⟩
theorem Tc.oo_ (h : Tc w f a b c u X O rc rb pc n cc pp k cp dn Cs Ps V) : V.cell? ⟨O, 0, none⟩ = some (.int .i64 (rc : Int)) ∧ V.cell? ⟨O, 1, none⟩ = some (.int .u64 (rb : Int)) ∧ V.cell? ⟨O, 2, none⟩ = some (.slice pc n cc) ∧ V.cell? ⟨O, 3, none⟩ = some (.slice pp k cp) ∧ V.cell? ⟨O, 4, none⟩ = some (.int .i64 (dn : Int)) := ⟨cell_of_block h.ob rfl, cell_of_block h.ob rfl, cell_of_block h.ob rfl, cell_of_block h.ob rfl, cell_of_block h.ob rfl⟩
theorem Tc.lts (h : Tc w f a b c u X O rc rb pc n cc pp k cp dn Cs Ps V) : X + 1 < V.heap.size ∧ O < V.heap.size := ⟨lt_of_block h.ab, lt_of_block h.ob⟩
end
set_option maxHeartbeats 16000000 in
theorem topCarried_walk (fuel : Int) (xs : List In) (hx : ∀ x ∈ xs, x.Fits) (v : Value) (a b c : Int) (w : World) (h : Cd w v xs) (hL : Libs w) :
    Calls Tryz.prog 3 #[.agg #[.int .i64 fuel, v], .agg #[.int .i64 a, .int .i64 b, .int .i64 c]] w fun e w' => e = .returned (.bool true) ∧ Below w.heap.size w w' := by
  have HL : Hid (∀ V, Below w.heap.size w V → Libs V) := hide fun V hV => hL.below hV (Nat.le_refl _)
  have HX := hide hx
  have HK : Hid (∀ x ∈ xs, x.k < 18446744073709551616) := hide fun x hm => (hx x hm).k
  obtain ⟨adp, capp, hv, _⟩ := id h
  subst hv
  have HCd : Hid (∀ V, Below w.heap.size w V → Cd V (.slice adp xs.length capp) xs) := hide fun V hV => h.below hV (Nat.le_refl _)
  have HB0 : Hid (Below w.heap.size w ((w.alloc (pObj fuel (.slice adp xs.length capp))).alloc (aObj a b c))) := below_of' (below_one' w _) (below_one' _ _)
  clear h hL hx
  by_cases hE : (Pg.checkE fuel xs).1 = 0
  · obtain ⟨f, hf, hp⟩ := pok_of HX.out hE
    subst hf
    have hc := check_zz hp hE
    have HWh := hide fun (V : World) (u : Value) (hV : Below w.heap.size w V) (hC : Cd V u xs) => whole_t (w := V) (v := u) HX.out hC hc hp (Tbs.of (HL.out V hV))
    have HPk := hide fun (V : World) (hV : Below w.heap.size w V) => pack_any (f : Int) xs HK.out _ V (HCd.out V hV)
    have HPr := hide fun (V : World) (hV : Below w.heap.size w V) => print_any (f : Int) xs HK.out _ V (HCd.out V hV) (HL.out V hV).tabs
    have HPa := hide fun (V : World) (hV : Below w.heap.size w V) => parse_bk HX.out hE V (HL.out V hV)
    have HUn := hide fun (V : World) => unpack_bk (fuel := (f : Int)) HX.out hE V
    have hPS := pack_some HX.out hE
    have hPL := (unpack_pack HX.out hE).1
    have hl1 := end_len xs f
    have hf2 := hp.f2
    have hcl := chk_len (Im.end_ xs f).2
    have hpl := pcs_len (Im.end_ xs f).2
    rw [hE] at HPk HPr
    have hc2 : (Im.chk (Im.end_ xs f).2).length < 1000000 := by omega
    have hp2 : (Im.pcs (Im.end_ xs f).2).length < 1000000 := by omega
    clear hl1 hf2 hcl hpl hc hp hE
    generalize Im.resC (Im.end_ xs f).1 = rc at *
    generalize Im.resB (Im.end_ xs f).1 = rb at *
    generalize (Im.end_ xs f).1.dn = dn at *
    generalize Im.chk (Im.end_ xs f).2 = Cs at *
    generalize Im.pcs (Im.end_ xs f).2 = Ps at *
    generalize Pg.packS (f : Int) xs = PB at *
    generalize Pg.printS (f : Int) xs = PT at *
    go_enter Tryz.func3, Tryz.ntmps3
    go_wp2_with fail
    refine (HWh.out _ _ HB0.out (HCd.out _ HB0.out)).mono ?_
    rintro e w1 ⟨pc1, cc1, pp1, cp1, rfl, ho1, hb1⟩
    have HT1 : Hid (Tc w (f : Int) a b c (.slice adp xs.length capp) w.heap.size w1.heap.size rc rb pc1 Cs.length cc1 pp1 Ps.length cp1 dn Cs Ps (w1.alloc (oObj rc rb pc1 Cs.length cc1 pp1 Ps.length cp1 dn))) := by
      have hb := below_of' hb1 (below_one' w1 (oObj rc rb pc1 Cs.length cc1 pp1 Ps.length cp1 dn))
      refine ⟨(hb.block _ (by simp; omega)).trans ((Below.heap_alloc _ _ _ (by simp)).trans (heap_alloc_new w _)), (hb.block _ (by simp)).trans ?_, heap_alloc_new w1 _, ho1.below (below_one' w1 _), below_of' HB0.out hb⟩
      have := heap_alloc_new (w.alloc (pObj (f : Int) (.slice adp xs.length capp))) (aObj a b c)
      rw [World.size_alloc] at this
      exact this
    obtain ⟨X, hX⟩ : ∃ X, w.heap.size = X := ⟨_, rfl⟩
    obtain ⟨O, hO⟩ : ∃ O, w1.heap.size = O := ⟨_, rfl⟩
    have hXO : X + 1 < O := by have := hb1.size; simp at this; omega
    rw [hX, hO] at HT1
    have p0 := HT1.out.pp_.1
    have p1 := HT1.out.pp_.2
    clear ho1 hb1
    go_wp2_with fail
    refine (HPk.out _ HT1.out.bl).mono ?_
    rintro e w2 ⟨rfl, hb2⟩
    have HT2 := hide (HT1.out.up hb2)
    clear p0 p1 hb2 HT1
    have p0 := HT2.out.pp_.1
    have p1 := HT2.out.pp_.2
    go_wp2_with fail
    refine (HPr.out _ HT2.out.bl).mono ?_
    rintro e w3 ⟨rfl, hb3⟩
    have HT3 := hide (HT2.out.up hb3)
    clear p0 p1 hb3 HT2
    go_wp2_with fail
    refine (reck_any _ (HL.out _ HT3.out.bl)).mono ?_
    rintro e w4 ⟨rfl, hb4⟩
    have HT4 := hide (HT3.out.up hb4)
    clear hb4 HT3
    go_wp2_with fail
    refine (HPa.out _ HT4.out.bl).mono ?_
    rintro e w5 ⟨v5, rfl, hC5, hb5⟩
    obtain ⟨ad5, cap5, e5, _⟩ := id hC5
    subst e5
    have HT5 := hide ((HT4.out.up hb5).al (pObj (f : Int) (.slice ad5 xs.length cap5)))
    have HC5 := hide (hC5.below (below_one' w5 (pObj (f : Int) (.slice ad5 xs.length cap5))) (Nat.le_refl _))
    clear hb5 HT4 hC5
    go_wp2_with fail
    refine (HWh.out _ _ HT5.out.bl HC5.out).mono ?_
    rintro e w6 ⟨pc6, cc6, pp6, cp6, rfl, ho6, hb6⟩
    have HT6 := hide ((HT5.out.up hb6).al (oObj rc rb pc6 Cs.length cc6 pp6 Ps.length cp6 dn))
    have HO6 := hide (ho6.below (below_one' w6 (oObj rc rb pc6 Cs.length cc6 pp6 Ps.length cp6 dn)))
    have o0 := (HT5.out.up hb6).oo_.1
    have o1 := (HT5.out.up hb6).oo_.2.1
    have o2 := (HT5.out.up hb6).oo_.2.2.1
    have o3 := (HT5.out.up hb6).oo_.2.2.2.1
    have o4 := (HT5.out.up hb6).oo_.2.2.2.2
    have hO6 : O < w6.heap.size := (HT5.out.up hb6).lts.2
    clear hb6 HT5 ho6 HC5
    go_wp2_with fail
    refine (sameOutcome_eq HT6.out.os HO6.out hc2 hp2).mono ?_
    rintro e w7 ⟨rfl, hb7⟩
    have HT7 := hide (HT6.out.up hb7)
    clear hb7 HT6 HO6 o0 o1 o2 o3 o4 hO6
    have a0 := HT7.out.at_.1
    have a1 := HT7.out.at_.2.1
    have a2 := HT7.out.at_.2.2
    have HEn : Hid (∀ V, Calls Tryz.prog 10 #[.agg #[.int .i64 9, .int .i64 a, .int .i64 b, .int .i64 1, .int .i64 c, .int .i64 0, .int .i64 0, .int .i64 0, .int .u64 0, .string ⟨#[]⟩, .string PB]] V fun e w' => e = .returned (.tuple #[.string (W.encB (offer a b c PB)), .int .i64 (W.Wr.check (offer a b c PB) : Int)]) ∧ Below V.heap.size V w') := hide fun V => W.encode_any (offer a b c PB) (by show (0 : Nat) < 18446744073709551616; decide) V
    have HDe : Hid (W.Wr.check (offer a b c PB) = 0 → ∀ V, Calls Tryz.prog 11 #[.string (W.encB (offer a b c PB))] V fun e w' => e = .returned (.tuple #[.agg #[.int .i64 9, .int .i64 a, .int .i64 b, .int .i64 1, .int .i64 c, .int .i64 0, .int .i64 0, .int .i64 0, .int .u64 0, .string ⟨#[]⟩, .string PB], .int .i64 0]) ∧ Below V.heap.size V w') := hide fun hk V => by
      have h1 := W.decode_any (W.encB (offer a b c PB)) V (Nat.le_trans (enc_size hk) (by decide))
      rw [offer_back hk] at h1
      exact h1
    have HNo : Hid (W.Wr.check (offer a b c PB) ≠ 0 → a < 1 ∨ (¬ a < 1 ∧ 1099511627776 < a) ∨ (¬ a < 1 ∧ ¬ 1099511627776 < a ∧ b < 1) ∨ (¬ a < 1 ∧ ¬ 1099511627776 < a ∧ ¬ b < 1 ∧ 1099511627776 < b) ∨ (¬ a < 1 ∧ ¬ 1099511627776 < a ∧ ¬ b < 1 ∧ ¬ 1099511627776 < b ∧ c < 1) ∨ (¬ a < 1 ∧ ¬ 1099511627776 < a ∧ ¬ b < 1 ∧ ¬ 1099511627776 < b ∧ ¬ c < 1 ∧ 1099511627776 < c)) := hide fun hk => by
      by_cases k1 : a < 1
      · exact .inl k1
      by_cases k2 : 1099511627776 < a
      · exact .inr (.inl ⟨k1, k2⟩)
      by_cases k3 : b < 1
      · exact .inr (.inr (.inl ⟨k1, k2, k3⟩))
      by_cases k4 : 1099511627776 < b
      · exact .inr (.inr (.inr (.inl ⟨k1, k2, k3, k4⟩)))
      by_cases k5 : c < 1
      · exact .inr (.inr (.inr (.inr (.inl ⟨k1, k2, k3, k4, k5⟩))))
      by_cases k6 : 1099511627776 < c
      · exact .inr (.inr (.inr (.inr (.inr ⟨k1, k2, k3, k4, k5, k6⟩))))
      exact absurd (offer_ok ⟨by omega, by omega⟩ ⟨by omega, by omega⟩ ⟨by omega, by omega⟩ hPS (by omega)) hk
    generalize W.encB (offer a b c PB) = EB at *
    generalize W.Wr.check (offer a b c PB) = CK at *
    by_cases hCK : CK = 0
    · subst hCK
      have HD2 := hide (HDe.out rfl)
      clear HDe HNo
      go_wp2_with fail
      refine (HEn.out _).mono ?_
      rintro e w8 ⟨rfl, hb8⟩
      have HT8 := hide (HT7.out.up hb8)
      clear hb8 HT7 a0 a1 a2
      go_wp2_with fail
      refine (HD2.out _).mono ?_
      rintro e w9 ⟨rfl, hb9⟩
      have HT9 := hide ((HT8.out.up hb9).al (.cells #[.int .i64 9, .int .i64 a, .int .i64 b, .int .i64 1, .int .i64 c, .int .i64 0, .int .i64 0, .int .i64 0, .int .u64 0, .string ⟨#[]⟩, .string PB] 44))
      clear hb9 HT8 HEn HD2
      go_wp2_with fail
      refine (HUn.out _).mono ?_
      rintro e w10 ⟨v10, rfl, hC10, hb10⟩
      obtain ⟨ad10, cap10, e10, _⟩ := id hC10
      subst e10
      have HT10 := hide ((HT9.out.up hb10).al (pObj (f : Int) (.slice ad10 xs.length cap10)))
      have HC10 := hide (hC10.below (below_one' w10 (pObj (f : Int) (.slice ad10 xs.length cap10))) (Nat.le_refl _))
      clear hb10 HT9 hC10
      go_wp2_with fail
      refine (HWh.out _ _ HT10.out.bl HC10.out).mono ?_
      rintro e w11 ⟨pc6, cc6, pp6, cp6, rfl, ho6, hb6⟩
      have HT6 := hide ((HT10.out.up hb6).al (oObj rc rb pc6 Cs.length cc6 pp6 Ps.length cp6 dn))
      have HO6 := hide (ho6.below (below_one' w11 (oObj rc rb pc6 Cs.length cc6 pp6 Ps.length cp6 dn)))
      have o0 := (HT10.out.up hb6).oo_.1
      have o1 := (HT10.out.up hb6).oo_.2.1
      have o2 := (HT10.out.up hb6).oo_.2.2.1
      have o3 := (HT10.out.up hb6).oo_.2.2.2.1
      have o4 := (HT10.out.up hb6).oo_.2.2.2.2
      have hO6 : O < w11.heap.size := (HT10.out.up hb6).lts.2
      clear hb6 HT10 ho6 HC10
      go_wp2_with fail
      refine (sameOutcome_eq HT6.out.os HO6.out hc2 hp2).mono ?_
      rintro e w7 ⟨rfl, hb7⟩
      have HT7 := hide (HT6.out.up hb7)
      clear hb7 HT6 HO6 o0 o1 o2 o3 o4 hO6
      go_wp2_with fail
      go_ret
      exact ⟨rfl, HT7.out.bl⟩
    · have HN := hide (HNo.out hCK)
      have tk : ((CK : Int) != 0) = true := by
        have : ¬ (CK : Int) = 0 := by omega
        simpa using this
      clear HDe HNo HUn HPa HWh HPk HPr hc2 hp2
      generalize (CK : Int) = CI at *
      clear hCK
      go_wp2_with fail
      refine (HEn.out _).mono ?_
      rintro e w8 ⟨rfl, hb8⟩
      have HT8 := hide (HT7.out.up hb8)
      clear hb8 HT7 a0 a1 a2 HEn
      have a0 := HT8.out.at_.1
      have a1 := HT8.out.at_.2.1
      have a2 := HT8.out.at_.2.2
      rcases HN.out with k1 | ⟨k1, k2⟩ | ⟨k1, k2, k3⟩ | ⟨k1, k2, k3, k4⟩ | ⟨k1, k2, k3, k4, k5⟩ | ⟨k1, k2, k3, k4, k5, k6⟩
      · have d1 := decide_eq_true (show a < 1 by omega)
        clear k1
        go_wp2_with fail
        go_ret
        exact ⟨by simp, HT8.out.bl⟩
      · have d1 := decide_eq_false (show ¬ a < 1 by omega)
        have d2 := decide_eq_true (show 1099511627776 < a by omega)
        clear k1 k2
        go_wp2_with fail
        go_ret
        exact ⟨by simp, HT8.out.bl⟩
      · have d1 := decide_eq_false (show ¬ a < 1 by omega)
        have d2 := decide_eq_false (show ¬ 1099511627776 < a by omega)
        have d3 := decide_eq_true (show b < 1 by omega)
        clear k1 k2 k3
        go_wp2_with fail
        go_ret
        exact ⟨by simp, HT8.out.bl⟩
      · have d1 := decide_eq_false (show ¬ a < 1 by omega)
        have d2 := decide_eq_false (show ¬ 1099511627776 < a by omega)
        have d3 := decide_eq_false (show ¬ b < 1 by omega)
        have d4 := decide_eq_true (show 1099511627776 < b by omega)
        clear k1 k2 k3 k4
        go_wp2_with fail
        go_ret
        exact ⟨by simp, HT8.out.bl⟩
      · have d1 := decide_eq_false (show ¬ a < 1 by omega)
        have d2 := decide_eq_false (show ¬ 1099511627776 < a by omega)
        have d3 := decide_eq_false (show ¬ b < 1 by omega)
        have d4 := decide_eq_false (show ¬ 1099511627776 < b by omega)
        have d5 := decide_eq_true (show c < 1 by omega)
        clear k1 k2 k3 k4 k5
        go_wp2_with fail
        go_ret
        exact ⟨by simp, HT8.out.bl⟩
      · have d1 := decide_eq_false (show ¬ a < 1 by omega)
        have d2 := decide_eq_false (show ¬ 1099511627776 < a by omega)
        have d3 := decide_eq_false (show ¬ b < 1 by omega)
        have d4 := decide_eq_false (show ¬ 1099511627776 < b by omega)
        have d5 := decide_eq_false (show ¬ c < 1 by omega)
        have d6 := decide_eq_true (show 1099511627776 < c by omega)
        clear k1 k2 k3 k4 k5 k6
        go_wp2_with fail
        go_ret
        exact ⟨by simp, HT8.out.bl⟩
  · have HW := hide (whole_no HX.out (HCd.out _ HB0.out) hE)
    have HPk := hide fun (V : World) (hV : Below w.heap.size w V) => pack_any fuel xs HK.out _ V (HCd.out V hV)
    have HPr := hide fun (V : World) (hV : Below w.heap.size w V) => print_any fuel xs HK.out _ V (HCd.out V hV) (HL.out V hV).tabs
    generalize (Pg.checkE fuel xs).1 = E at *
    generalize Pg.packS fuel xs = PB at *
    generalize Pg.printS fuel xs = PT at *
    have eE : (E != 0) = true := by simpa using hE
    have eE2 : (E == 0) = false := by simpa using hE
    have eE3 : (E != E) = false := by simp
    clear hE
    go_enter Tryz.func3, Tryz.ntmps3
    go_wp2_with fail
    refine HW.out.mono ?_
    rintro e w1 ⟨rfl, hb1⟩
    have hb : Below ((w.alloc (pObj fuel (.slice adp xs.length capp))).alloc (aObj a b c)).heap.size ((w.alloc (pObj fuel (.slice adp xs.length capp))).alloc (aObj a b c)) (w1.alloc (.cells #[.int .i64 0, .int .u64 0, .slice none 0 0, .slice none 0 0, .int .i64 0] 32)) := below_of' hb1 (below_one' w1 _)
    have hP1 := (hb.block w.heap.size (by simp; omega)).trans ((Below.heap_alloc _ _ _ (by simp)).trans (heap_alloc_new w (pObj fuel (.slice adp xs.length capp))))
    have HP1 := hide hP1
    have HB1 := hide (below_of' HB0.out hb)
    have hX1 : w.heap.size < w1.heap.size := by have := hb1.size; simp at this; omega
    have p0 := cell_of_block hP1 (i := 0) rfl
    have p1 := cell_of_block hP1 (i := 1) rfl
    clear hb hb1 hP1 HW
    go_wp2_with fail
    refine (HPk.out _ HB1.out).mono ?_
    rintro e w2 ⟨rfl, hb2⟩
    have hP2 := (hb2.block w.heap.size (lt_of_block HP1.out)).trans HP1.out
    have HB2 := hide (below_of' HB1.out hb2)
    clear p0 p1 HP1 HB1 hb2
    have p0 := cell_of_block hP2 (i := 0) rfl
    have p1 := cell_of_block hP2 (i := 1) rfl
    clear hP2
    go_wp2_with fail
    refine (HPr.out _ HB2.out).mono ?_
    rintro e w3 ⟨rfl, hb3⟩
    have HB3 := hide (below_of' HB2.out hb3)
    clear p0 p1 HB2 hb3
    go_wp2_with fail
    refine (reck_any _ (HL.out _ HB3.out)).mono ?_
    rintro e w4 ⟨rfl, hb4⟩
    have HB4 := hide (below_of' HB3.out hb4)
    clear HB3 hb4
    go_wp2_with fail
    go_ret
    exact ⟨rfl, HB4.out⟩
end Go.Proofs.YtpgehocadohkiaaGreatDoor
end
