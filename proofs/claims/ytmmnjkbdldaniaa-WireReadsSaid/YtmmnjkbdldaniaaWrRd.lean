import Derived.Test.YtmmnjkbdldaniaaWrRb
namespace Go.Proofs.Ytmmnjkbdldaniaa
open Go.RowKit Go.Shelf
open Wr (Ms V L)

theorem ks_of {k : Int} (h1 : 1 ≤ k) (h2 : k ≤ 16) : k = 1 ∨ k = 2 ∨ k = 3 ∨ k = 4 ∨ k = 5 ∨ k = 6 ∨ k = 7 ∨ k = 8 ∨ k = 9 ∨ k = 10 ∨ k = 11 ∨ k = 12 ∨ k = 13 ∨ k = 14 ∨ k = 15 ∨ k = 16 := by omega
/-- what Check asks of a field -/
def okL (m : Ms) (l : L) : Prop := (l ∈ Wr.letters m.k → Wr.may m.k l (Wr.get l m) = true) ∧ (l ∉ Wr.letters m.k → Wr.get l m = Wr.zV)
theorem rgt_l {k : Int} (h1 : 1 ≤ k) (h2 : k ≤ 16) (l : L) (n lo hi : Int) : rgt k (lowB l) n lo hi = true ↔ (l ∈ Wr.letters k → lo ≤ n ∧ n ≤ hi) ∧ (l ∉ Wr.letters k → n = 0) := by
  unfold rgt
  rw [hasB_l k l h1 h2]
  by_cases h : l ∈ Wr.letters k <;> simp [h]
theorem ix_most {k : Int} (h1 : 1 ≤ k) (h2 : k ≤ 16) (h : L.I ∈ Wr.letters k) : ixD k = Wr.most k .I := by
  rcases ks_of h1 h2 with rfl | rfl | rfl | rfl | rfl | rfl | rfl | rfl | rfl | rfl | rfl | rfl | rfl | rfl | rfl | rfl <;> first | rfl | exact absurd h (by decide)
theorem ct_most {k : Int} (h1 : 1 ≤ k) (h2 : k ≤ 16) (h : L.C ∈ Wr.letters k) : ctD k = Wr.most k .C := by
  rcases ks_of h1 h2 with rfl | rfl | rfl | rfl | rfl | rfl | rfl | rfl | rfl | rfl | rfl | rfl | rfl | rfl | rfl | rfl <;> first | rfl | exact absurd h (by decide)
theorem vw {x : Int} : (⟨x, 0, Wr.e0⟩ : V) = Wr.zV ↔ x = 0 := by unfold Wr.zV; simp
theorem vt {x : ByteArray} : (⟨0, 0, x⟩ : V) = Wr.zV ↔ (x.size : Int) = 0 := by
  unfold Wr.zV
  simp only [V.mk.injEq, true_and]
  constructor
  · rintro rfl; rfl
  · intro h
    apply ByteArray.ext
    have : x.data.size = 0 := by have : x.size = 0 := by omega
                                 exact this
    exact Array.size_eq_zero_iff.mp this
theorem ok_w {m : Ms} (h1 : 1 ≤ m.k) (h2 : m.k ≤ 16) {l : L} (hl : isW l = true) {n hi : Int} (hn : (Wr.get l m).i = n) (hg : Wr.get l m = ⟨n, 0, Wr.e0⟩) (hh : l ∈ Wr.letters m.k → hi = Wr.most m.k l) : rgt m.k (lowB l) n (Wr.least l) hi = true ↔ okL m l := by
  rw [rgt_l h1 h2]
  unfold okL
  rw [may_w hl, decide_eq_true_eq, hn, hg, vw]
  constructor
  · rintro ⟨a, b⟩; exact ⟨fun h => by rw [← hh h]; exact a h, b⟩
  · rintro ⟨a, b⟩; exact ⟨fun h => by rw [hh h]; exact a h, b⟩
theorem ok_t {m : Ms} (h1 : 1 ≤ m.k) (h2 : m.k ≤ 16) {l : L} (hl : isT l = true) {x : ByteArray} (hg : Wr.get l m = ⟨0, 0, x⟩) {hi : Int} (hh : hi = Wr.most m.k l) : rgt m.k (lowB l) (x.size : Int) (Wr.least l) hi = true ↔ okL m l := by
  rw [rgt_l h1 h2]
  unfold okL
  rw [may_t hl, decide_eq_true_eq, hg, vt, hh]
theorem canon_eq (n : Nat) : (decide (n % 9223372036854775808 ≤ 9218868437227405312 ∨ n = 9221120237041090561)) = decide (Gn.canonW n = n) := by
  unfold Gn.canonW
  by_cases h : n % 9223372036854775808 > 9218868437227405312
  · rw [if_pos h]; congr 1; apply propext; constructor
    · rintro (h' | h') <;> omega
    · intro h'; exact .inr h'.symm
  · rw [if_neg h]; simp; omega
theorem ok_r {m : Ms} (h1 : 1 ≤ m.k) (h2 : m.k ≤ 16) : (rgt m.k 114 m.rc 0 7 = true ∧ badB m = false) ↔ okL m .R := by
  rw [show (114 : UInt8) = lowB .R from rfl, rgt_l h1 h2]
  unfold okL badB
  rw [show (114 : UInt8) = lowB .R from rfl, hasB_l m.k .R h1 h2]
  unfold Wr.may Wr.canonB
  rw [canon_eq]
  by_cases h : L.R ∈ Wr.letters m.k
  · by_cases h0 : m.rb = 0 <;> by_cases hc : m.rc = 0 <;> by_cases hn : Gn.canonW m.rb = m.rb <;> simp [h, h0, hc, hn, Wr.least, Wr.most, Wr.sz, Wr.get]
    all_goals first | omega | (rw [← h0]; simp_all [Gn.canonW]) | skip
  · by_cases h0 : m.rb = 0 <;> simp [h, h0, Wr.get, Wr.zV]
theorem docCk_eq (m : Ms) : docCk m = Wr.check m := by
  unfold docCk Wr.check
  by_cases hk : m.k < 1 ∨ 16 < m.k
  · rw [if_pos hk, if_pos hk]
  · rw [if_neg hk, if_neg hk]
    have h1 : 1 ≤ m.k := by omega
    have h2 : m.k ≤ 16 := by omega
    have hO : (docOk m && !badB m) = Wr.chk (Wr.letters m.k) m := by
      rw [Bool.eq_iff_iff, Wr.chk_iff _ _ (Wr.letters_nodup _)]
      have hall : ((∀ l ∈ Wr.letters m.k, Wr.may m.k l (Wr.get l m) = true) ∧ ∀ l, l ∉ Wr.letters m.k → Wr.get l m = Wr.zV) ↔ (okL m .S ∧ okL m .N ∧ okL m .J ∧ okL m .B ∧ okL m .I ∧ okL m .C ∧ okL m .R ∧ okL m .T ∧ okL m .P) := by
        constructor
        · rintro ⟨a, b⟩
          exact ⟨⟨a _, b _⟩, ⟨a _, b _⟩, ⟨a _, b _⟩, ⟨a _, b _⟩, ⟨a _, b _⟩, ⟨a _, b _⟩, ⟨a _, b _⟩, ⟨a _, b _⟩, ⟨a _, b _⟩⟩
        · rintro ⟨a1, a2, a3, a4, a5, a6, a7, a8, a9⟩
          constructor
          · intro l hl; cases l <;> first | exact a1.1 hl | exact a2.1 hl | exact a3.1 hl | exact a4.1 hl | exact a5.1 hl | exact a6.1 hl | exact a7.1 hl | exact a8.1 hl | exact a9.1 hl
          · intro l hl; cases l <;> first | exact a1.2 hl | exact a2.2 hl | exact a3.2 hl | exact a4.2 hl | exact a5.2 hl | exact a6.2 hl | exact a7.2 hl | exact a8.2 hl | exact a9.2 hl
      rw [hall, ← ok_w h1 h2 (l := .S) rfl (n := m.se) rfl rfl (hi := 1099511627776) (fun _ => rfl), ← ok_w h1 h2 (l := .N) rfl (n := m.nu) rfl rfl (hi := 1099511627776) (fun _ => rfl), ← ok_w h1 h2 (l := .J) rfl (n := m.jo) rfl rfl (hi := 8) (fun _ => rfl), ← ok_w h1 h2 (l := .B) rfl (n := m.ba) rfl rfl (hi := 1099511627776) (fun _ => rfl),
        ← ok_w h1 h2 (l := .I) rfl (n := m.ix) rfl rfl (hi := ixD m.k) (ix_most h1 h2), ← ok_w h1 h2 (l := .C) rfl (n := m.co) rfl rfl (hi := ctD m.k) (ct_most h1 h2), ← ok_r h1 h2, ← ok_t h1 h2 (l := .T) rfl (x := m.tx) rfl (hi := 32) rfl, ← ok_t h1 h2 (l := .P) rfl (x := m.pr) rfl (hi := 1024) rfl]
      unfold docOk
      rw [show lowB .S = 115 from rfl, show lowB .N = 110 from rfl, show lowB .J = 106 from rfl, show lowB .B = 98 from rfl, show lowB .I = 105 from rfl, show lowB .C = 99 from rfl, show lowB .T = 116 from rfl, show lowB .P = 112 from rfl]
      simp only [Bool.and_eq_true, Bool.not_eq_true', show Wr.least .S = 1 from rfl, show Wr.least .N = 1 from rfl, show Wr.least .J = 1 from rfl, show Wr.least .B = 1 from rfl, show Wr.least .I = 0 from rfl, show Wr.least .C = 0 from rfl, show Wr.least .T = 0 from rfl, show Wr.least .P = 1 from rfl]
      constructor
      · rintro ⟨⟨⟨⟨⟨⟨⟨⟨⟨a1, a2⟩, a3⟩, a4⟩, a5⟩, a6⟩, a7⟩, a8⟩, a9⟩, b⟩; exact ⟨a1, a2, a3, a4, a5, a6, ⟨a7, b⟩, a8, a9⟩
      · rintro ⟨a1, a2, a3, a4, a5, a6, ⟨a7, b⟩, a8, a9⟩; exact ⟨⟨⟨⟨⟨⟨⟨⟨⟨a1, a2⟩, a3⟩, a4⟩, a5⟩, a6⟩, a7⟩, a8⟩, a9⟩, b⟩
    rw [hO]
    have hP : putB m = decide (m.k = 6 ∧ m.ix = 0 ∧ m.tx.size ≠ 0) := by
      unfold putB
      by_cases k6 : m.k = 6 <;> by_cases i0 : m.ix = 0 <;> by_cases t0 : m.tx.size = 0 <;> simp [k6, i0, t0]
    rw [hP]
    by_cases hp : m.k = 6 ∧ m.ix = 0 ∧ m.tx.size ≠ 0
    · rw [if_pos hp, decide_eq_true hp]; simp
    · rw [if_neg hp, decide_eq_false hp]; simp
theorem rcheck_any (m : Ms) (hrb : m.rb < 18446744073709551616) (w : World) : Calls Try.prog 11 #[.agg (msgC m)] w fun e w' => e = .returned (.int .i64 (Wr.check m : Int)) ∧ Below w.heap.size w w' := by
  rw [← docCk_eq]; exact rcheck_doc m hrb w
end Go.Proofs.Ytmmnjkbdldaniaa
