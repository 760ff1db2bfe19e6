import Derived.Test.YtkfnedhllfdghaaGreatDoorMgBN
import Derived.Test.YtkfnedhllfdghaaGreatDoorMgAN

section
namespace Go.Proofs.YtkfnedhllfdghaaGreatDoor.W
set_option maxRecDepth 20000
open Go.RowKit Go.Shelf
open Wr (Ms V L)

theorem ks_of {k : Int} (h1 : 1 ≤ k) (h2 : k ≤ 16) : k = 1 ∨ k = 2 ∨ k = 3 ∨ k = 4 ∨ k = 5 ∨ k = 6 ∨ k = 7 ∨ k = 8 ∨ k = 9 ∨ k = 10 ∨ k = 11 ∨ k = 12 ∨ k = 13 ∨ k = 14 ∨ k = 15 ∨ k = 16 := by omega
/-- what Check asks of a field -/
def okL (m : Ms) (l : L) : Prop := (l ∈ Wr.letters m.k → Wr.may m.k l (Wr.get l m) = true) ∧ (l ∉ Wr.letters m.k → Wr.get l m = Wr.zV)
theorem rgt_l {k : Int} (h1 : 1 ≤ k) (h2 : k ≤ 16) (l : L) (n lo hi : Int) : rgt k (lowB l) n lo hi = true ↔ (l ∈ Wr.letters k → lo ≤ n ∧ n ≤ hi) ∧ (l ∉ Wr.letters k → n = 0) := by
  unfold rgt
  rw [hasB_l k l h1 h2]
  by_cases h : l ∈ Wr.letters k <;> simp [h]
theorem ix_most {k : Int} (h1 : 1 ≤ k) (h2 : k ≤ 16) (h : L.I ∈ Wr.letters k) : ixD k = Wr.most k .I := by
  rcases ks_of h1 h2 with rfl | rfl | rfl | rfl | rfl | rfl | rfl | rfl | rfl | rfl | rfl | rfl | rfl | rfl | rfl | rfl <;> first | rfl | exact absurd h (by decide)
theorem ct_most {k : Int} (h1 : 1 ≤ k) (h2 : k ≤ 16) (h : L.C ∈ Wr.letters k) : ctD k = Wr.most k .C := by
  rcases ks_of h1 h2 with rfl | rfl | rfl | rfl | rfl | rfl | rfl | rfl | rfl | rfl | rfl | rfl | rfl | rfl | rfl | rfl <;> first | rfl | exact absurd h (by decide)
theorem vw {x : Int} : (⟨x, 0, Wr.e0⟩ : V) = Wr.zV ↔ x = 0 := by unfold Wr.zV; simp
theorem vt {x : ByteArray} : (⟨0, 0, x⟩ : V) = Wr.zV ↔ (x.size : Int) = 0 := by
  unfold Wr.zV
  simp only [V.mk.injEq, true_and]
  constructor
  · rintro rfl; rfl
  · intro h
    apply ByteArray.ext
    have : x.data.size = 0 := by have : x.size = 0 := by omega
                                 exact this
    exact Array.size_eq_zero_iff.mp this
theorem ok_w {m : Ms} (h1 : 1 ≤ m.k) (h2 : m.k ≤ 16) {l : L} (hl : isW l = true) {n hi : Int} (hn : (Wr.get l m).i = n) (hg : Wr.get l m = ⟨n, 0, Wr.e0⟩) (hh : l ∈ Wr.letters m.k → hi = Wr.most m.k l) : rgt m.k (lowB l) n (Wr.least l) hi = true ↔ okL m l := by
  rw [rgt_l h1 h2]
  unfold okL
  rw [may_w hl, decide_eq_true_eq, hn, hg, vw]
  constructor
  · rintro ⟨a, b⟩; exact ⟨fun h => by rw [← hh h]; exact a h, b⟩
  · rintro ⟨a, b⟩; exact ⟨fun h => by rw [hh h]; exact a h, b⟩
theorem ok_t {m : Ms} (h1 : 1 ≤ m.k) (h2 : m.k ≤ 16) {l : L} (hl : isT l = true) {x : ByteArray} (hg : Wr.get l m = ⟨0, 0, x⟩) {hi : Int} (hh : hi = Wr.most m.k l) : rgt m.k (lowB l) (x.size : Int) (Wr.least l) hi = true ↔ okL m l := by
  rw [rgt_l h1 h2]
  unfold okL
  rw [may_t hl, decide_eq_true_eq, hg, vt, hh]
theorem canon_eq (n : Nat) : (decide (n % 9223372036854775808 ≤ 9218868437227405312 ∨ n = 9221120237041090561)) = decide (Gn.canonW n = n) := by
  unfold Gn.canonW
  by_cases h : n % 9223372036854775808 > 9218868437227405312
  · rw [if_pos h]; congr 1; apply propext; constructor
    · rintro (h' | h') <;> omega
    · intro h'; exact .inr h'.symm
  · rw [if_neg h]; simp; omega
theorem ok_r {m : Ms} (h1 : 1 ≤ m.k) (h2 : m.k ≤ 16) : (rgt m.k 114 m.rc 0 7 = true ∧ badB m = false) ↔ okL m .R := by
  rw [show (114 : UInt8) = lowB .R from rfl, rgt_l h1 h2]
  unfold okL badB
  rw [show (114 : UInt8) = lowB .R from rfl, hasB_l m.k .R h1 h2]
  unfold Wr.may Wr.canonB
  rw [canon_eq]
  by_cases h : L.R ∈ Wr.letters m.k
  · by_cases h0 : m.rb = 0 <;> by_cases hc : m.rc = 0 <;> by_cases hn : Gn.canonW m.rb = m.rb <;> simp [h, h0, hc, hn, Wr.least, Wr.most, Wr.sz, Wr.get]
    all_goals first | omega | (rw [← h0]; simp_all [Gn.canonW]) | skip
  · by_cases h0 : m.rb = 0 <;> simp [h, h0, Wr.get, Wr.zV]
theorem docCk_eq (m : Ms) : docCk m = Wr.check m := by
  unfold docCk Wr.check
  by_cases hk : m.k < 1 ∨ 16 < m.k
  · rw [if_pos hk, if_pos hk]
  · rw [if_neg hk, if_neg hk]
    have h1 : 1 ≤ m.k := by omega
    have h2 : m.k ≤ 16 := by omega
    have hO : (docOk m && !badB m) = Wr.chk (Wr.letters m.k) m := by
      rw [Bool.eq_iff_iff, Wr.chk_iff _ _ (Wr.letters_nodup _)]
      have hall : ((∀ l ∈ Wr.letters m.k, Wr.may m.k l (Wr.get l m) = true) ∧ ∀ l, l ∉ Wr.letters m.k → Wr.get l m = Wr.zV) ↔ (okL m .S ∧ okL m .N ∧ okL m .J ∧ okL m .B ∧ okL m .I ∧ okL m .C ∧ okL m .R ∧ okL m .T ∧ okL m .P) := by
        constructor
        · rintro ⟨a, b⟩
          exact ⟨⟨a _, b _⟩, ⟨a _, b _⟩, ⟨a _, b _⟩, ⟨a _, b _⟩, ⟨a _, b _⟩, ⟨a _, b _⟩, ⟨a _, b _⟩, ⟨a _, b _⟩, ⟨a _, b _⟩⟩
        · rintro ⟨a1, a2, a3, a4, a5, a6, a7, a8, a9⟩
          constructor
          · intro l hl; cases l <;> first | exact a1.1 hl | exact a2.1 hl | exact a3.1 hl | exact a4.1 hl | exact a5.1 hl | exact a6.1 hl | exact a7.1 hl | exact a8.1 hl | exact a9.1 hl
          · intro l hl; cases l <;> first | exact a1.2 hl | exact a2.2 hl | exact a3.2 hl | exact a4.2 hl | exact a5.2 hl | exact a6.2 hl | exact a7.2 hl | exact a8.2 hl | exact a9.2 hl
      rw [hall, ← ok_w h1 h2 (l := .S) rfl (n := m.se) rfl rfl (hi := 1099511627776) (fun _ => rfl), ← ok_w h1 h2 (l := .N) rfl (n := m.nu) rfl rfl (hi := 1099511627776) (fun _ => rfl), ← ok_w h1 h2 (l := .J) rfl (n := m.jo) rfl rfl (hi := 8) (fun _ => rfl), ← ok_w h1 h2 (l := .B) rfl (n := m.ba) rfl rfl (hi := 1099511627776) (fun _ => rfl),
        ← ok_w h1 h2 (l := .I) rfl (n := m.ix) rfl rfl (hi := ixD m.k) (ix_most h1 h2), ← ok_w h1 h2 (l := .C) rfl (n := m.co) rfl rfl (hi := ctD m.k) (ct_most h1 h2), ← ok_r h1 h2, ← ok_t h1 h2 (l := .T) rfl (x := m.tx) rfl (hi := 32) rfl, ← ok_t h1 h2 (l := .P) rfl (x := m.pr) rfl (hi := 1024) rfl]
      unfold docOk
      rw [show lowB .S = 115 from rfl, show lowB .N = 110 from rfl, show lowB .J = 106 from rfl, show lowB .B = 98 from rfl, show lowB .I = 105 from rfl, show lowB .C = 99 from rfl, show lowB .T = 116 from rfl, show lowB .P = 112 from rfl]
      simp only [Bool.and_eq_true, Bool.not_eq_true', show Wr.least .S = 1 from rfl, show Wr.least .N = 1 from rfl, show Wr.least .J = 1 from rfl, show Wr.least .B = 1 from rfl, show Wr.least .I = 0 from rfl, show Wr.least .C = 0 from rfl, show Wr.least .T = 0 from rfl, show Wr.least .P = 1 from rfl]
      constructor
      · rintro ⟨⟨⟨⟨⟨⟨⟨⟨⟨a1, a2⟩, a3⟩, a4⟩, a5⟩, a6⟩, a7⟩, a8⟩, a9⟩, b⟩; exact ⟨a1, a2, a3, a4, a5, a6, ⟨a7, b⟩, a8, a9⟩
      · rintro ⟨a1, a2, a3, a4, a5, a6, ⟨a7, b⟩, a8, a9⟩; exact ⟨⟨⟨⟨⟨⟨⟨⟨⟨a1, a2⟩, a3⟩, a4⟩, a5⟩, a6⟩, a7⟩, a8⟩, a9⟩, b⟩
    rw [hO]
    have hP : putB m = decide (m.k = 6 ∧ m.ix = 0 ∧ m.tx.size ≠ 0) := by
      unfold putB
      by_cases k6 : m.k = 6 <;> by_cases i0 : m.ix = 0 <;> by_cases t0 : m.tx.size = 0 <;> simp [k6, i0, t0]
    rw [hP]
    by_cases hp : m.k = 6 ∧ m.ix = 0 ∧ m.tx.size ≠ 0
    · rw [if_pos hp, decide_eq_true hp]; simp
    · rw [if_neg hp, decide_eq_false hp]; simp
theorem rcheck_any (m : Ms) (hrb : m.rb < 18446744073709551616) (w : World) : Calls Tryz.prog 64 #[.agg (msgC m)] w fun e w' => e = .returned (.int .i64 (Wr.check m : Int)) ∧ Below w.heap.size w w' := by
  rw [← docCk_eq]; exact rcheck_doc m hrb w
end Go.Proofs.YtkfnedhllfdghaaGreatDoor.W
end

section
namespace Go.Proofs.YtkfnedhllfdghaaGreatDoor.W
set_option maxRecDepth 20000
open Go.RowKit Go.Shelf
open Wr (Ms V L)

theorem eleven {W : World} {A : Nat} {m : Ms} (h : Mg W A m) : W.cell? ⟨A, 0, none⟩ = some (.int .i64 m.k) ∧ W.cell? ⟨A, 1, none⟩ = some (.int .i64 m.se) ∧ W.cell? ⟨A, 2, none⟩ = some (.int .i64 m.nu) ∧ W.cell? ⟨A, 3, none⟩ = some (.int .i64 m.jo) ∧ W.cell? ⟨A, 4, none⟩ = some (.int .i64 m.ba) ∧ W.cell? ⟨A, 5, none⟩ = some (.int .i64 m.ix) ∧ W.cell? ⟨A, 6, none⟩ = some (.int .i64 m.co) ∧ W.cell? ⟨A, 7, none⟩ = some (.int .i64 m.rc) ∧ W.cell? ⟨A, 8, none⟩ = some (.int .u64 (m.rb : Int)) ∧ W.cell? ⟨A, 9, none⟩ = some (.string m.tx) ∧ W.cell? ⟨A, 10, none⟩ = some (.string m.pr) :=
  ⟨h.all 0 _ rfl, h.all 1 _ rfl, h.all 2 _ rfl, h.all 3 _ rfl, h.all 4 _ rfl, h.all 5 _ rfl, h.all 6 _ rfl, h.all 7 _ rfl, h.all 8 _ rfl, h.all 9 _ rfl, h.all 10 _ rfl⟩
end Go.Proofs.YtkfnedhllfdghaaGreatDoor.W
end

section
namespace Go.Proofs.YtkfnedhllfdghaaGreatDoor.W
set_option maxRecDepth 20000
open Go.RowKit Go.Shelf
open Wr (Ms V L)

theorem add_str {a b : List UInt8} (h : a.length + b.length ≤ 100000) (W : World) : (Op.stringOp .add ⟨a.toArray⟩ ⟨b.toArray⟩).run Tryz.prog W = .ok (.string ⟨(a ++ b).toArray⟩) W := by
  have := run_string_add_sum (P := Tryz.prog) W ⟨a.toArray⟩ ⟨b.toArray⟩ (by show a.toArray.size + b.toArray.size ≤ _; simp; omega)
  rw [this, ba_append]
theorem nstr_in {k : Int} (h1 : 1 ≤ k) (h2 : k ≤ 16) : nstr k = ⟨((Wr.letters k).map lowB).toArray⟩ := if_neg (by omega)
theorem nstr_len {k : Int} (h1 : 1 ≤ k) (h2 : k ≤ 16) : (nstr k).size = (Wr.letters k).length := by rw [nstr_in h1 h2]; show (List.toArray _).size = _; simp
theorem nstr_at {k : Int} (h1 : 1 ≤ k) (h2 : k ≤ 16) {i : Nat} (hi : i < (Wr.letters k).length) (hs : i < (nstr k).size) : (nstr k)[i]'hs = lowB (Wr.letters k)[i] := by
  have e : (nstr k).data.toList = (Wr.letters k).map lowB := by rw [nstr_in h1 h2]
  have h : i < (nstr k).data.toList.length := hs
  have : (nstr k)[i]'hs = (nstr k).data.toList[i]'h := rfl
  rw [this]
  simp only [e, List.getElem_map]
theorem qnumQ {x : Nat} {y : Int} (hx : x < 18446744073709551616) (hy : y = (x : Int)) (w : World) : Calls Tryz.prog 137 #[.int .u64 y] w fun e w' => e = .returned (.string ⟨(Pk.enc x).toArray⟩) ∧ Below w.heap.size w w' := by
  subst hy; exact qnum_any x hx w
set_option maxRecDepth 8000 in
set_option maxHeartbeats 8000000 in
theorem rencode_any (m : Ms) (hrb : m.rb < 18446744073709551616) (w : World) : Calls Tryz.prog 98 #[.agg (msgC m)] w fun e w' => e = .returned (.tuple #[.string (encB m), .int .i64 (Wr.check m : Int)]) ∧ Below w.heap.size w w' := by
  have HC := hide (rcheck_any m hrb)
  have HSt : Hid (Below (w.heap.size + 1) (w.alloc (.cells (msgC m) 67)) (w.alloc (.cells (msgC m) 67))) := Below.refl _ _
  by_cases hc : Wr.check m = 0
  · have hB : encB m = ⟨(Wr.bytes m).toArray⟩ := if_pos hc
    have hlen := Wr.bytes_len hc
    obtain ⟨⟨k1, k2⟩, _, hmay, _⟩ := (Wr.check_iff m).mp hc
    have HMay := hide hmay
    clear hmay
    obtain ⟨kn, hkn⟩ : ∃ kn : Nat, m.k = (kn : Int) := ⟨m.k.toNat, by omega⟩
    have hk0 : kn < 17 := by omega
    rw [hB, hc]
    rw [hc] at HC
    rw [show ((0 : Nat) : Int) = 0 from rfl] at HC ⊢
    have HE : Hid (Wr.bytes m = Pk.enc kn ++ Wr.body m (Wr.letters m.k)) := by rw [show kn = m.k.toNat by omega]; rfl
    have HN := hide (rnamed_any m.k)
    have hss := nstr_len k1 k2
    have HAt := hide (fun (i : Nat) (hi : i < (Wr.letters m.k).length) (hs : i < (nstr m.k).size) => nstr_at k1 k2 hi hs)
    have hl5 := letters_five m.k
    generalize Wr.letters m.k = ls at *
    generalize nstr m.k = s at *
    have HK := hide hkn
    generalize hR : (⟨(Wr.bytes m).toArray⟩ : ByteArray) = RES at *
    have HR := hide hR
    clear hR hkn hB
    unfold msgC at HC HSt ⊢
    go_enter Tryz.func98, Tryz.ntmps98
    go_wp2_with fail
    refine (HC.out _).mono ?_
    rintro e w1 ⟨rfl, hb1⟩
    have H1 := hide (below_in HSt.out hb1)
    clear hb1
    have hc0 : w1.cell? ⟨w.heap.size, 0, none⟩ = some (.int .i64 (kn : Int)) := by rw [← HK.out]; exact (mg_in H1.out).c0
    go_wp2_with fail
    refine (qnum_any kn (by omega) _).mono ?_
    rintro e w2 ⟨rfl, hb2⟩
    have H2 := hide (below_in H1.out hb2)
    clear hb2
    have hc0 : w2.cell? ⟨w.heap.size, 0, none⟩ = some (.int .i64 m.k) := (mg_in H2.out).c0
    go_wp2_with fail
    refine (HN.out _).mono ?_
    rintro e w3 ⟨rfl, hb3⟩
    have H3 := hide (below_in H2.out hb3)
    clear hb3
    go_wp2
    go_loopw [5, 7] (fun u5 u7 wr => ∃ (i : Nat) (acc : List UInt8), u5 = .string ⟨acc.toArray⟩ ∧ u7 = .int .i64 (i : Int) ∧ i ≤ ls.length ∧ Hid (Below (w.heap.size + 1) (w.alloc (.cells #[.int .i64 m.k, .int .i64 m.se, .int .i64 m.nu, .int .i64 m.jo, .int .i64 m.ba, .int .i64 m.ix, .int .i64 m.co, .int .i64 m.rc, .int .u64 (m.rb : Int), .string m.tx, .string m.pr] 67)) wr) ∧ Hid (Wr.bytes m = acc ++ Wr.body m (ls.drop i))) (fun _ u7 _ => ls.length - (intOf u7).toNat)
    case atStart => exact ⟨0, Pk.enc kn, rfl, rfl, Nat.zero_le _, H3.out, by rw [List.drop_zero]; exact HE.out⟩
    case round =>
      obtain ⟨i, acc, rfl, rfl, hi, HBl, HBy⟩ := hrel
      have hacc : acc.length ≤ 2048 := by
        have := congrArg List.length HBy.out
        rw [List.length_append] at this
        omega
      by_cases hil : i < ls.length
      · have his : i < s.size := by omega
        have d0 : decide ((i : Int) < (s.size : Int)) = true := by simp; omega
        have hx := HAt.out i hil his
        have hby := HBy.out.trans (congrArg (acc ++ ·) (body_drop hil m))
        have hmy := HMay.out ls[i] (List.getElem_mem hil)
        have hly : (Wr.lay ls[i] (Wr.get ls[i] m)).length ≤ 2048 := by
          have h1 := congrArg List.length hby
          rw [List.length_append, List.length_append] at h1
          omega
        have MM := mg_in HBl.out
        generalize hL : ls[i] = l at *
        clear hL
        cases l
        · have hx2 : ((s[i]'his).toNat : Int) = 115 := by rw [hx]; rfl
          have hm2 : Wr.least .S ≤ m.se ∧ m.se ≤ Wr.most m.k .S := by have := hmy; rw [may_w rfl, decide_eq_true_eq] at this; exact this
          have hhi := most_hi m.k .S
          have hlo := least_lo .S
          obtain ⟨x, hxx⟩ : ∃ x : Nat, m.se = (x : Int) := ⟨m.se.toNat, by omega⟩
          have hx3 : x < 9223372036854775808 := by omega
          have hlx : Wr.lay .S (Wr.get .S m) = Pk.enc x := by show Pk.enc m.se.toNat = _; rw [hxx]; rfl
          have ca : wr.cell? ⟨w.heap.size, 1, none⟩ = some (.int .i64 (x : Int)) := by rw [← hxx]; exact MM.all 1 _ rfl
          rw [hlx] at hby hly
          have HBY := hide hby
          have hadd := fun W => add_str (a := acc) (b := Pk.enc x) (by omega) W
          clear hby hx hmy MM hm2 hhi hlo hxx hlx
          go_wp2_with fail
          refine (qnum_any x (by omega) _).mono ?_
          rintro e w4 ⟨rfl, hb4⟩
          have H4 := hide (below_in HBl.out hb4)
          clear hb4
          go_wp2
          exact ⟨⟨i + 1, acc ++ Pk.enc x, rfl, by go_num, by omega, H4.out, by rw [List.append_assoc]; exact HBY.out⟩, by simp [intOf]; omega⟩
        · have hx2 : ((s[i]'his).toNat : Int) = 110 := by rw [hx]; rfl
          have hm2 : Wr.least .N ≤ m.nu ∧ m.nu ≤ Wr.most m.k .N := by have := hmy; rw [may_w rfl, decide_eq_true_eq] at this; exact this
          have hhi := most_hi m.k .N
          have hlo := least_lo .N
          obtain ⟨x, hxx⟩ : ∃ x : Nat, m.nu = (x : Int) := ⟨m.nu.toNat, by omega⟩
          have hx3 : x < 9223372036854775808 := by omega
          have hlx : Wr.lay .N (Wr.get .N m) = Pk.enc x := by show Pk.enc m.nu.toNat = _; rw [hxx]; rfl
          have ca : wr.cell? ⟨w.heap.size, 2, none⟩ = some (.int .i64 (x : Int)) := by rw [← hxx]; exact MM.all 2 _ rfl
          rw [hlx] at hby hly
          have HBY := hide hby
          have hadd := fun W => add_str (a := acc) (b := Pk.enc x) (by omega) W
          clear hby hx hmy MM hm2 hhi hlo hxx hlx
          go_wp2_with fail
          refine (qnum_any x (by omega) _).mono ?_
          rintro e w4 ⟨rfl, hb4⟩
          have H4 := hide (below_in HBl.out hb4)
          clear hb4
          go_wp2
          exact ⟨⟨i + 1, acc ++ Pk.enc x, rfl, by go_num, by omega, H4.out, by rw [List.append_assoc]; exact HBY.out⟩, by simp [intOf]; omega⟩
        · have hx2 : ((s[i]'his).toNat : Int) = 106 := by rw [hx]; rfl
          have hm2 : Wr.least .J ≤ m.jo ∧ m.jo ≤ Wr.most m.k .J := by have := hmy; rw [may_w rfl, decide_eq_true_eq] at this; exact this
          have hhi := most_hi m.k .J
          have hlo := least_lo .J
          obtain ⟨x, hxx⟩ : ∃ x : Nat, m.jo = (x : Int) := ⟨m.jo.toNat, by omega⟩
          have hx3 : x < 9223372036854775808 := by omega
          have hlx : Wr.lay .J (Wr.get .J m) = Pk.enc x := by show Pk.enc m.jo.toNat = _; rw [hxx]; rfl
          have ca : wr.cell? ⟨w.heap.size, 3, none⟩ = some (.int .i64 (x : Int)) := by rw [← hxx]; exact MM.all 3 _ rfl
          rw [hlx] at hby hly
          have HBY := hide hby
          have hadd := fun W => add_str (a := acc) (b := Pk.enc x) (by omega) W
          clear hby hx hmy MM hm2 hhi hlo hxx hlx
          go_wp2_with fail
          refine (qnum_any x (by omega) _).mono ?_
          rintro e w4 ⟨rfl, hb4⟩
          have H4 := hide (below_in HBl.out hb4)
          clear hb4
          go_wp2
          exact ⟨⟨i + 1, acc ++ Pk.enc x, rfl, by go_num, by omega, H4.out, by rw [List.append_assoc]; exact HBY.out⟩, by simp [intOf]; omega⟩
        · have hx2 : ((s[i]'his).toNat : Int) = 98 := by rw [hx]; rfl
          have hm2 : Wr.least .B ≤ m.ba ∧ m.ba ≤ Wr.most m.k .B := by have := hmy; rw [may_w rfl, decide_eq_true_eq] at this; exact this
          have hhi := most_hi m.k .B
          have hlo := least_lo .B
          obtain ⟨x, hxx⟩ : ∃ x : Nat, m.ba = (x : Int) := ⟨m.ba.toNat, by omega⟩
          have hx3 : x < 9223372036854775808 := by omega
          have hlx : Wr.lay .B (Wr.get .B m) = Pk.enc x := by show Pk.enc m.ba.toNat = _; rw [hxx]; rfl
          have ca : wr.cell? ⟨w.heap.size, 4, none⟩ = some (.int .i64 (x : Int)) := by rw [← hxx]; exact MM.all 4 _ rfl
          rw [hlx] at hby hly
          have HBY := hide hby
          have hadd := fun W => add_str (a := acc) (b := Pk.enc x) (by omega) W
          clear hby hx hmy MM hm2 hhi hlo hxx hlx
          go_wp2_with fail
          refine (qnum_any x (by omega) _).mono ?_
          rintro e w4 ⟨rfl, hb4⟩
          have H4 := hide (below_in HBl.out hb4)
          clear hb4
          go_wp2
          exact ⟨⟨i + 1, acc ++ Pk.enc x, rfl, by go_num, by omega, H4.out, by rw [List.append_assoc]; exact HBY.out⟩, by simp [intOf]; omega⟩
        · have hx2 : ((s[i]'his).toNat : Int) = 105 := by rw [hx]; rfl
          have hm2 : Wr.least .I ≤ m.ix ∧ m.ix ≤ Wr.most m.k .I := by have := hmy; rw [may_w rfl, decide_eq_true_eq] at this; exact this
          have hhi := most_hi m.k .I
          have hlo := least_lo .I
          obtain ⟨x, hxx⟩ : ∃ x : Nat, m.ix = (x : Int) := ⟨m.ix.toNat, by omega⟩
          have hx3 : x < 9223372036854775808 := by omega
          have hlx : Wr.lay .I (Wr.get .I m) = Pk.enc x := by show Pk.enc m.ix.toNat = _; rw [hxx]; rfl
          have ca : wr.cell? ⟨w.heap.size, 5, none⟩ = some (.int .i64 (x : Int)) := by rw [← hxx]; exact MM.all 5 _ rfl
          rw [hlx] at hby hly
          have HBY := hide hby
          have hadd := fun W => add_str (a := acc) (b := Pk.enc x) (by omega) W
          clear hby hx hmy MM hm2 hhi hlo hxx hlx
          go_wp2_with fail
          refine (qnum_any x (by omega) _).mono ?_
          rintro e w4 ⟨rfl, hb4⟩
          have H4 := hide (below_in HBl.out hb4)
          clear hb4
          go_wp2
          exact ⟨⟨i + 1, acc ++ Pk.enc x, rfl, by go_num, by omega, H4.out, by rw [List.append_assoc]; exact HBY.out⟩, by simp [intOf]; omega⟩
        · have hx2 : ((s[i]'his).toNat : Int) = 99 := by rw [hx]; rfl
          have hm2 : Wr.least .C ≤ m.co ∧ m.co ≤ Wr.most m.k .C := by have := hmy; rw [may_w rfl, decide_eq_true_eq] at this; exact this
          have hhi := most_hi m.k .C
          have hlo := least_lo .C
          obtain ⟨x, hxx⟩ : ∃ x : Nat, m.co = (x : Int) := ⟨m.co.toNat, by omega⟩
          have hx3 : x < 9223372036854775808 := by omega
          have hlx : Wr.lay .C (Wr.get .C m) = Pk.enc x := by show Pk.enc m.co.toNat = _; rw [hxx]; rfl
          have ca : wr.cell? ⟨w.heap.size, 6, none⟩ = some (.int .i64 (x : Int)) := by rw [← hxx]; exact MM.all 6 _ rfl
          rw [hlx] at hby hly
          have HBY := hide hby
          have hadd := fun W => add_str (a := acc) (b := Pk.enc x) (by omega) W
          clear hby hx hmy MM hm2 hhi hlo hxx hlx
          go_wp2_with fail
          refine (qnum_any x (by omega) _).mono ?_
          rintro e w4 ⟨rfl, hb4⟩
          have H4 := hide (below_in HBl.out hb4)
          clear hb4
          go_wp2
          exact ⟨⟨i + 1, acc ++ Pk.enc x, rfl, by go_num, by omega, H4.out, by rw [List.append_assoc]; exact HBY.out⟩, by simp [intOf]; omega⟩
        · have hx2 : ((s[i]'his).toNat : Int) = 114 := by rw [hx]; rfl
          have hm2 : (decide (0 ≤ m.rc ∧ m.rc ≤ 7) && Wr.canonB m.rc m.rb) = true := hmy
          rw [Bool.and_eq_true, decide_eq_true_eq] at hm2
          obtain ⟨x, hxx⟩ : ∃ x : Nat, m.rc = (x : Int) := ⟨m.rc.toNat, by omega⟩
          have hx3 : x < 9223372036854775808 := by omega
          have hlx : Wr.lay .R (Wr.get .R m) = Pk.enc x ++ Pk.big8 m.rb := by show Pk.enc m.rc.toNat ++ _ = _; rw [hxx]; rfl
          have ca : wr.cell? ⟨w.heap.size, 7, none⟩ = some (.int .i64 (x : Int)) := by rw [← hxx]; exact MM.all 7 _ rfl
          have cb : wr.cell? ⟨w.heap.size, 8, none⟩ = some (.int .u64 (m.rb : Int)) := MM.all 8 _ rfl
          rw [hlx] at hby hly
          have HBY := hide hby
          have hly2 := hly
          rw [List.length_append] at hly2
          have hadd1 := fun W => add_str (a := Pk.enc x) (b := Pk.big8 m.rb) (by omega) W
          have hadd2 := fun W => add_str (a := acc) (b := Pk.enc x ++ Pk.big8 m.rb) (by omega) W
          have HXX := hide hxx
          clear hby hx hmy MM hm2 hxx hlx hly hly2
          go_wp2_with fail
          go_region_held3 (fun w' => w'.cell? ⟨w.heap.size, 7, none⟩ = some (.int .i64 (x : Int)) ∧ w'.cell? ⟨w.heap.size, 8, none⟩ = some (.int .u64 (m.rb : Int))) (first | exact ⟨ca, cb⟩ | exact ⟨k4a, k4b⟩ | exact ⟨k5a, k5b⟩ | go_keep) (first
            | (go_at_call 137; first | (refine (qnumQ (x := x) (by omega) (by first | rfl | omega | (rw [IntKind.wrap_u64]; omega)) w4).mono ?_; rintro e w5 ⟨rfl, hb5⟩; have H5 := hide (below_in H4.out hb5); have k5a : w5.cell? ⟨w.heap.size, 7, none⟩ = some (.int .i64 (x : Int)) := (by rw [← HXX.out]; exact (mg_in H5.out).all 7 _ rfl); have k5b : w5.cell? ⟨w.heap.size, 8, none⟩ = some (.int .u64 (m.rb : Int)) := (mg_in H5.out).all 8 _ rfl; clear hb5) | (refine (qnumQ (x := x) (by omega) (by first | rfl | omega | (rw [IntKind.wrap_u64]; omega)) _).mono ?_; rintro e w4 ⟨rfl, hb4⟩; have H4 := hide (below_in HBl.out (show Below wr.heap.size wr w4 from ⟨hb4.os, hb4.tape, hb4.output, hb4.size, hb4.block⟩)); have k4a : w4.cell? ⟨w.heap.size, 7, none⟩ = some (.int .i64 (x : Int)) := (by rw [← HXX.out]; exact (mg_in H4.out).all 7 _ rfl); have k4b : w4.cell? ⟨w.heap.size, 8, none⟩ = some (.int .u64 (m.rb : Int)) := (mg_in H4.out).all 8 _ rfl; clear hb4))
            | (go_at_call 138; first | (refine (qbits_any m.rb hrb w4).mono ?_; rintro e w5 ⟨rfl, hb5⟩; have H5 := hide (below_in H4.out hb5); have k5a : w5.cell? ⟨w.heap.size, 7, none⟩ = some (.int .i64 (x : Int)) := (by rw [← HXX.out]; exact (mg_in H5.out).all 7 _ rfl); have k5b : w5.cell? ⟨w.heap.size, 8, none⟩ = some (.int .u64 (m.rb : Int)) := (mg_in H5.out).all 8 _ rfl; clear hb5) | (refine (qbits_any m.rb hrb _).mono ?_; rintro e w4 ⟨rfl, hb4⟩; have H4 := hide (below_in HBl.out (show Below wr.heap.size wr w4 from ⟨hb4.os, hb4.tape, hb4.output, hb4.size, hb4.block⟩)); have k4a : w4.cell? ⟨w.heap.size, 7, none⟩ = some (.int .i64 (x : Int)) := (by rw [← HXX.out]; exact (mg_in H4.out).all 7 _ rfl); have k4b : w4.cell? ⟨w.heap.size, 8, none⟩ = some (.int .u64 (m.rb : Int)) := (mg_in H4.out).all 8 _ rfl; clear hb4)))
          all_goals
            go_wp2
            exact ⟨⟨i + 1, acc ++ (Pk.enc x ++ Pk.big8 m.rb), rfl, by go_num, by omega, H5.out, by rw [List.append_assoc]; exact HBY.out⟩, by simp [intOf]; omega⟩
        · have hx2 : ((s[i]'his).toNat : Int) = 116 := by rw [hx]; rfl
          have hm2 : Wr.least .T ≤ (m.tx.size : Int) ∧ (m.tx.size : Int) ≤ Wr.most m.k .T := by have := hmy; rw [may_t rfl, decide_eq_true_eq] at this; exact this
          have hhi := most_hi m.k .T
          have ca : wr.cell? ⟨w.heap.size, 9, none⟩ = some (.string m.tx) := MM.all 9 _ rfl
          have HBY : Hid (Wr.bytes m = acc ++ ((Pk.enc m.tx.size ++ m.tx.data.toList) ++ Wr.body m (ls.drop (i + 1)))) := hby
          have hly : (Pk.enc m.tx.size ++ m.tx.data.toList).length ≤ 2048 := hly
          have hadd := fun W => add_str (a := acc) (b := Pk.enc m.tx.size ++ m.tx.data.toList) (by omega) W
          have HQ := hide (qtext_any m.tx (by omega))
          rw [ba_append] at HQ
          clear hby hx hmy MM hm2 hhi
          go_wp2_with fail
          refine (HQ.out _).mono ?_
          rintro e w4 ⟨rfl, hb4⟩
          have H4 := hide (below_in HBl.out hb4)
          clear hb4
          go_wp2
          exact ⟨⟨i + 1, acc ++ (Pk.enc m.tx.size ++ m.tx.data.toList), rfl, by go_num, by omega, H4.out, by rw [List.append_assoc]; exact HBY.out⟩, by simp [intOf]; omega⟩
        · have hx2 : ((s[i]'his).toNat : Int) = 112 := by rw [hx]; rfl
          have hm2 : Wr.least .P ≤ (m.pr.size : Int) ∧ (m.pr.size : Int) ≤ Wr.most m.k .P := by have := hmy; rw [may_t rfl, decide_eq_true_eq] at this; exact this
          have hhi := most_hi m.k .P
          have ca : wr.cell? ⟨w.heap.size, 10, none⟩ = some (.string m.pr) := MM.all 10 _ rfl
          have HBY : Hid (Wr.bytes m = acc ++ ((Pk.enc m.pr.size ++ m.pr.data.toList) ++ Wr.body m (ls.drop (i + 1)))) := hby
          have hly : (Pk.enc m.pr.size ++ m.pr.data.toList).length ≤ 2048 := hly
          have hadd := fun W => add_str (a := acc) (b := Pk.enc m.pr.size ++ m.pr.data.toList) (by omega) W
          have HQ := hide (qtext_any m.pr (by omega))
          rw [ba_append] at HQ
          clear hby hx hmy MM hm2 hhi
          go_wp2_with fail
          refine (HQ.out _).mono ?_
          rintro e w4 ⟨rfl, hb4⟩
          have H4 := hide (below_in HBl.out hb4)
          clear hb4
          go_wp2
          exact ⟨⟨i + 1, acc ++ (Pk.enc m.pr.size ++ m.pr.data.toList), rfl, by go_num, by omega, H4.out, by rw [List.append_assoc]; exact HBY.out⟩, by simp [intOf]; omega⟩
      · have d0 : decide ((i : Int) < (s.size : Int)) = false := by simp; omega
        obtain rfl : i = ls.length := by omega
        have hfin : Wr.bytes m = acc := by
          have := HBy.out
          rw [List.drop_length] at this
          simpa [Wr.body] using this
        have HFin := hide hfin
        clear hfin
        go_wp2
        go_ret2
        exact ⟨by rw [← HR.out, HFin.out]; rfl, b_out HBl.out⟩
  · have hB : encB m = ⟨#[]⟩ := if_neg hc
    have hb : ((Wr.check m : Int) != 0) = true := by simp; omega
    rw [hB]
    generalize Wr.check m = E at *
    unfold msgC at HC HSt ⊢
    go_enter Tryz.func98, Tryz.ntmps98
    go_wp2_with fail
    refine (HC.out _).mono ?_
    rintro e w1 ⟨rfl, hb1⟩
    have H1 := hide (below_in HSt.out hb1)
    clear hb1
    go_wp2
    go_ret2
    exact ⟨rfl, b_out H1.out⟩
end Go.Proofs.YtkfnedhllfdghaaGreatDoor.W
end

section
namespace Go.Proofs.YtkfnedhllfdghaaGreatDoor.W
set_option maxRecDepth 20000
open Go.RowKit

/-- the document's reader, four cells of a block -/
structure RR (w : World) (G o : Nat) (b : ByteArray) (p f a : Int) : Prop where
  blk : ∃ cur, w.heap[G]? = some (.cells cur 133 (0, 0))
  c0 : w.cell? ⟨G, o, none⟩ = some (.string b)
  c1 : w.cell? ⟨G, o + 1, none⟩ = some (.int .i64 p)
  c2 : w.cell? ⟨G, o + 2, none⟩ = some (.int .i64 f)
  c3 : w.cell? ⟨G, o + 3, none⟩ = some (.int .i64 a)
/-- of block G the four cells at o alone are turned -/
structure RW (G o : Nat) (w w' : World) : Prop where
  os : w'.os = w.os
  tape : w'.tape = w.tape
  output : w'.output = w.output
  size : w'.heap.size = w.heap.size
  other : ∀ k, k ≠ G → w'.heap[k]? = w.heap[k]?
  same : ∀ cur, w.heap[G]? = some (.cells cur 133 (0, 0)) → ∃ cur', w'.heap[G]? = some (.cells cur' 133 (0, 0)) ∧ cur'.size = cur.size ∧ ∀ i, i < o ∨ o + 4 ≤ i → cur'[i]? = cur[i]?
theorem RW.refl (G o : Nat) (w : World) : RW G o w w := ⟨rfl, rfl, rfl, rfl, fun _ _ => rfl, fun cur h => ⟨cur, h, rfl, fun _ _ => rfl⟩⟩
theorem RW.trans {G o : Nat} {a b c : World} (h : RW G o a b) (k : RW G o b c) : RW G o a c :=
  ⟨k.os.trans h.os, k.tape.trans h.tape, k.output.trans h.output, k.size.trans h.size, fun i hi => (k.other i hi).trans (h.other i hi), fun cur hc => by
    obtain ⟨c1, h1, h2, h3⟩ := h.same cur hc
    obtain ⟨c2, g1, g2, g3⟩ := k.same c1 h1
    exact ⟨c2, g1, g2.trans h2, fun i hi => (g3 i hi).trans (h3 i hi)⟩⟩
theorem RW.drewN (G o : Nat) (w : World) (n : Nat) : RW G o w (w.drewN n) := ⟨rfl, rfl, rfl, rfl, fun _ _ => rfl, fun cur h => ⟨cur, h, rfl, fun _ _ => rfl⟩⟩
theorem heap_set_self (w : World) (g o : Nat) (v : Value) (cur : Array Value) (t : TypeId) (fr : Nat × Nat) (h : w.heap[g]? = some (.cells cur t fr)) : (w.setCell ⟨g, o, none⟩ v).heap[g]? = some (.cells (cur.setIfInBounds o v) t fr) := by
  have hlt := lt_of_block h
  have h' : w.heap[g] = .cells cur t fr := by simpa [Array.getElem?_eq_getElem hlt] using h
  show (w.heap.modify g _)[g]? = _
  rw [Array.getElem?_eq_getElem (by simpa using hlt), Array.getElem_modify_self, h']
  rfl
theorem RW.set (G o : Nat) (w : World) (j : Nat) (hj : j < 4) (v : Value) : RW G o w (w.setCell ⟨G, o + j, none⟩ v) :=
  ⟨rfl, rfl, rfl, by show (w.heap.modify G _).size = _; simp, fun k hk => Below.heap_setCell w ⟨G, o + j, none⟩ v k hk, fun cur hc => ⟨_, heap_set_self w G (o + j) v cur _ _ hc, by simp, fun i hi => by rw [Array.getElem?_setIfInBounds]; split; omega; rfl⟩⟩
section
variable {w w' : World} {G o : Nat} {b : ByteArray} {p f a : Int}
theorem RR.z (h : RR w G o b p f a) (k : Nat) : w.frozen? ⟨G, k, none⟩ = false := by obtain ⟨cur, hc⟩ := h.blk; simp [World.frozen?, hc]
theorem RR.lt (h : RR w G o b p f a) : G < w.heap.size := by obtain ⟨cur, hc⟩ := h.blk; exact lt_of_block hc
theorem RR.drewN (h : RR w G o b p f a) (n : Nat) : RR (w.drewN n) G o b p f a := ⟨h.blk, h.c0, h.c1, h.c2, h.c3⟩
theorem RR.set1 (h : RR w G o b p f a) (q : Int) : RR (w.setCell ⟨G, o + 1, none⟩ (.int .i64 q)) G o b q f a := by
  obtain ⟨cur, hc⟩ := h.blk
  have c0 := h.c0; have c1 := h.c1; have c2 := h.c2; have c3 := h.c3
  refine ⟨⟨_, heap_set_self w G (o + 1) _ cur _ _ hc⟩, ?_, ?_, ?_, ?_⟩
  · rw [World.cell?_setCell_other _ _ _ _ (by simp)]; exact c0
  · exact World.cell?_setCell_same' _ _ _ (by rw [c1]; rfl)
  · rw [World.cell?_setCell_other _ _ _ _ (by simp)]; exact c2
  · rw [World.cell?_setCell_other _ _ _ _ (by simp)]; exact c3
theorem RR.set2 (h : RR w G o b p f a) (q : Int) : RR (w.setCell ⟨G, o + 2, none⟩ (.int .i64 q)) G o b p q a := by
  obtain ⟨cur, hc⟩ := h.blk
  have c0 := h.c0; have c1 := h.c1; have c2 := h.c2; have c3 := h.c3
  refine ⟨⟨_, heap_set_self w G (o + 2) _ cur _ _ hc⟩, ?_, ?_, ?_, ?_⟩
  · rw [World.cell?_setCell_other _ _ _ _ (by simp)]; exact c0
  · rw [World.cell?_setCell_other _ _ _ _ (by simp)]; exact c1
  · exact World.cell?_setCell_same' _ _ _ (by rw [c2]; rfl)
  · rw [World.cell?_setCell_other _ _ _ _ (by simp)]; exact c3
theorem RR.set3 (h : RR w G o b p f a) (q : Int) : RR (w.setCell ⟨G, o + 3, none⟩ (.int .i64 q)) G o b p f q := by
  obtain ⟨cur, hc⟩ := h.blk
  have c0 := h.c0; have c1 := h.c1; have c2 := h.c2; have c3 := h.c3
  refine ⟨⟨_, heap_set_self w G (o + 3) _ cur _ _ hc⟩, ?_, ?_, ?_, ?_⟩
  · rw [World.cell?_setCell_other _ _ _ _ (by simp)]; exact c0
  · rw [World.cell?_setCell_other _ _ _ _ (by simp)]; exact c1
  · rw [World.cell?_setCell_other _ _ _ _ (by simp)]; exact c2
  · exact World.cell?_setCell_same' _ _ _ (by rw [c3]; rfl)
theorem RR.keep (h : RR w G o b p f a) (hs : w'.heap[G]? = w.heap[G]?) : RR w' G o b p f a := by
  have hc : ∀ k, w'.cell? ⟨G, k, none⟩ = w.cell? ⟨G, k, none⟩ := fun k => by simp only [World.cell?, hs]
  refine ⟨by rw [hs]; exact h.blk, ?_, ?_, ?_, ?_⟩
  · rw [hc]; exact h.c0
  · rw [hc]; exact h.c1
  · rw [hc]; exact h.c2
  · rw [hc]; exact h.c3
end

set_option maxHeartbeats 400000 in
theorem wrong_live {w : World} {G o : Nat} {b : ByteArray} {p a : Int} (h : RR w G o b p 0 a) (e : Int) :
    Calls Tryz.prog 111 #[.pointer (some ⟨G, o, none⟩), .int .i64 e] w fun e' w' => (∃ v, e' = .returned v) ∧ RR w' G o b p e p ∧ RW G o w w' := by
  have c1 := h.c1
  have c2 := h.c2
  have c3 := h.c3
  have z2 := h.z (o + 2)
  have z3 := h.z (o + 3)
  have HE := hide (And.intro ((h.set2 e).set3 p) ((RW.set G o w 2 (by decide) (.int .i64 e)).trans (RW.set G o _ 3 (by decide) (.int .i64 p))))
  clear h
  go_enter Tryz.func111, Tryz.ntmps111
  go_wp2
  go_end0
  exact ⟨⟨_, rfl⟩, HE.out.1, HE.out.2⟩

set_option maxHeartbeats 1600000 in
set_option maxRecDepth 40000 in
theorem form_any {w : World} {p : Nat} {b : ByteArray} (hp : p ≤ b.size) (hb : b.size ≤ 140737488351232) :
    Calls Tryz.prog 151 #[.string b, .int .i64 (p : Int)] w fun e w' => w' = w ∧ ((∃ n m, Pk.dec 0 0 (rest b p) = (0, n, m) ∧ e = .returned (.tuple #[.int .u64 (n : Int), .int .i64 ((p + m : Nat) : Int), .int .i64 0])) ∨ (∃ k : Nat, k ≠ 0 ∧ Pk.dec 0 0 (rest b p) = (k, 0, 0) ∧ e = .returned (.tuple #[.int .u64 0, .int .i64 0, .int .i64 (k : Int)]))) := by
  go_enter Tryz.func151, Tryz.ntmps151
  go_wp2_with fail
  go_loopw [7, 8] (fun v i wr => ∃ k acc : Nat, i = .int .i64 (k : Int) ∧ v = .int .u64 (acc : Int) ∧ k ≤ 10 ∧ p + k ≤ b.size ∧ GRel (Pk.dec 0 0 (rest b p)) (rest b p) k acc ∧ wr = w) (fun _ i _ => 10 - (intOf i).toNat)
  case atStart => exact ⟨0, 0, rfl, rfl, by omega, by omega, ⟨by omega, fun _ => ⟨by decide, rfl⟩, fun h => by cases h⟩, rfl⟩
  case round =>
    obtain ⟨k, acc, rfl, rfl, hk10, hpk, hG, rfl⟩ := hrel
    by_cases hk : k < 10
    · have hkI : (k : Int) < 10 := by omega
      by_cases hl2 : p + k < b.size
      · have hi : 0 ≤ (p : Int) + (k : Int) ∧ (p : Int) + (k : Int) < (b.size : Int) := by omega
        have hge : decide ((b.size : Int) ≤ (p : Int) + (k : Int)) = false := by simp; omega
        obtain ⟨c, hc⟩ : ∃ c : UInt8, b[((p : Int) + (k : Int)).toNat]'(by omega) = c := ⟨_, rfl⟩
        have hcb : c.toNat < 256 := UInt8.toNat_lt c
        rcases (show 128 ≤ c.toNat ∨ (c.toNat < 128 ∧ 0 < k ∧ c.toNat = 0) ∨ (c.toNat < 128 ∧ k = 9 ∧ 1 < c.toNat) ∨ (c.toNat < 128 ∧ k = 0) ∨ (c.toNat < 128 ∧ 0 < k ∧ 0 < c.toNat ∧ k ≠ 9) ∨ (k = 9 ∧ c.toNat = 1) by omega) with hA | ⟨hA, hB, hC⟩ | ⟨hA, hB, hC⟩ | ⟨hA, hB⟩ | ⟨hA, hB, hC, hE⟩ | ⟨hB, hA⟩
        · obtain ⟨acc', he, hG'⟩ := hG.next hk hl2 hc hA
          have HE : Hid (bits .or .u64 (acc : Int) (IntKind.u64.wrap ((c.toNat : Int) % 128 * 2 ^ (7 * k))) = (acc' : Int)) := he
          have b4 : decide ((128 : Int) ≤ (c.toNat : Int)) = true := by simp; omega
          clear he hG
          go_wp2_with fail
          exact ⟨⟨k + 1, acc', by go_num, by rw [HE.out], by omega, by omega, hG', by first | rfl | trivial⟩, by simp [intOf]; omega⟩
        · have HD := hide (hG.bad hk hl2 hc hA (.inl ⟨hB, hC⟩))
          have b1 : ((c.toNat : Int) == 0) = true := by rw [beq_iff_eq]; omega
          have b0 : decide ((0 : Int) < (k : Int)) = true := by simp; omega
          clear hC
          have b4 : decide ((128 : Int) ≤ (c.toNat : Int)) = false := by simp; omega
          clear hG
          go_wp2_with fail
          go_ret3
          exact ⟨rfl, .inr ⟨22, by decide, HD.out, rfl⟩⟩
        · have HD := hide (hG.bad hk hl2 hc hA (.inr ⟨hB, hC⟩))
          have b1 : ((c.toNat : Int) == 0) = false := by rw [beq_eq_false_iff_ne]; omega
          have b2 : decide ((1 : Int) < (c.toNat : Int)) = true := by simp; omega
          have b3 : ((k : Int) == 9) = true := by rw [beq_iff_eq]; omega
          clear hB
          have b4 : decide ((128 : Int) ≤ (c.toNat : Int)) = false := by simp; omega
          clear hG
          go_wp2_with fail
          go_ret3
          exact ⟨rfl, .inr ⟨22, by decide, HD.out, rfl⟩⟩
        · obtain ⟨acc', he, hD⟩ := hG.good hk hl2 hc hA (by omega)
          have b3 : ((k : Int) == 9) = false := by rw [beq_eq_false_iff_ne]; omega
          have b0 : decide ((0 : Int) < (k : Int)) = false := by simp; omega
          have b00 : ¬ 0 < k := by omega
          clear hB
          by_cases hz : ((c.toNat : Int) == 0) = true
          all_goals (try (have hz : ((c.toNat : Int) == 0) = false := by simpa using hz))
          all_goals
            have HE : Hid (bits .or .u64 (acc : Int) (IntKind.u64.wrap ((c.toNat : Int) % 128 * 2 ^ (7 * k))) = (acc' : Int)) := he
            have HD : Hid (Pk.dec 0 0 (rest b p) = (0, acc', k + 1)) := hD
            have b4 : decide ((128 : Int) ≤ (c.toNat : Int)) = false := by simp; omega
            clear he hD hG
            go_wp2_with fail
            go_ret3
            exact ⟨rfl, .inl ⟨acc', k + 1, HD.out, by rw [HE.out]; rfl⟩⟩
        · obtain ⟨acc', he, hD⟩ := hG.good hk hl2 hc hA (by omega)
          have b1 : ((c.toNat : Int) == 0) = false := by rw [beq_eq_false_iff_ne]; omega
          have b2 : ((k : Int) == 9) = false := by rw [beq_eq_false_iff_ne]; omega
          have b0 : decide ((0 : Int) < (k : Int)) = true := by simp; omega
          have HE : Hid (bits .or .u64 (acc : Int) (IntKind.u64.wrap ((c.toNat : Int) % 128 * 2 ^ (7 * k))) = (acc' : Int)) := he
          have HD : Hid (Pk.dec 0 0 (rest b p) = (0, acc', k + 1)) := hD
          have b4 : decide ((128 : Int) ≤ (c.toNat : Int)) = false := by simp; omega
          clear he hD hG
          go_wp2_with fail
          go_ret3
          exact ⟨rfl, .inl ⟨acc', k + 1, HD.out, by rw [HE.out]; rfl⟩⟩
        · obtain ⟨acc', he, hD⟩ := hG.good hk hl2 hc (by omega) (by omega)
          have b1 : ((c.toNat : Int) == 0) = false := by rw [beq_eq_false_iff_ne]; omega
          have b2 : decide ((1 : Int) < (c.toNat : Int)) = false := by simp; omega
          have b3 : ((k : Int) == 9) = true := by rw [beq_iff_eq]; omega
          have hAA : c.toNat < 128 := by omega
          clear hA hB
          have HE : Hid (bits .or .u64 (acc : Int) (IntKind.u64.wrap ((c.toNat : Int) % 128 * 2 ^ (7 * k))) = (acc' : Int)) := he
          have HD : Hid (Pk.dec 0 0 (rest b p) = (0, acc', k + 1)) := hD
          have b4 : decide ((128 : Int) ≤ (c.toNat : Int)) = false := by simp; omega
          clear he hD hG
          go_wp2_with fail
          go_ret3
          exact ⟨rfl, .inl ⟨acc', k + 1, HD.out, by rw [HE.out]; rfl⟩⟩
      · have HD := hide (hG.done hk (by omega))
        have hge : decide ((b.size : Int) ≤ (p : Int) + (k : Int)) = true := by simp; omega
        clear hG
        go_wp2_with fail
        go_ret3
        exact ⟨rfl, .inr ⟨20, by decide, HD.out, rfl⟩⟩
    · have HD := hide (hG.ten (by omega))
      have hkI : decide ((k : Int) < 10) = false := by simp; omega
      clear hG
      go_wp2_with fail
      go_ret3
      exact ⟨rfl, .inr ⟨22, by decide, HD.out, rfl⟩⟩

theorem dec_shape : ∀ (l : List UInt8) (i acc : Nat), (∃ n m, Pk.dec i acc l = (0, n, m)) ∨ (∃ k : Nat, k ≠ 0 ∧ Pk.dec i acc l = (k, 0, 0))
  | [], i, acc => by
    unfold Pk.dec
    split
    · exact .inr ⟨20, by decide, rfl⟩
    · exact .inr ⟨22, by decide, rfl⟩
  | c :: l, i, acc => by
    unfold Pk.dec
    split
    · split
      · exact dec_shape l _ _
      · split
        · exact .inr ⟨22, by decide, rfl⟩
        · exact .inl ⟨_, _, rfl⟩
    · exact .inr ⟨22, by decide, rfl⟩
/-- what the document's number comes to -/
def QPost (w : World) (G o p : Nat) (b : ByteArray) (most above : Nat) (e : Ending) (w' : World) : Prop :=
  (numK b p most above = 0 ∧ e = .returned (.tuple #[.int .u64 (numV b p : Int), .int .i64 (numQ b p : Int)]) ∧ RR w' G o b p 0 0 ∧ RW G o w w') ∨
  (numK b p most above ≠ 0 ∧ e = .returned (.tuple #[.int .u64 0, .int .i64 (p : Int)]) ∧ RR w' G o b p (numK b p most above : Int) p ∧ RW G o w w')

set_option maxHeartbeats 1000000 in
theorem number_live {w : World} {G o p most above : Nat} {b : ByteArray} (h : RR w G o b p 0 0) (hp : p ≤ b.size) (hb : b.size ≤ 140737488351232) (ha : above ≠ 0) :
    Calls Tryz.prog 110 #[.pointer (some ⟨G, o, none⟩), .int .u64 (most : Int), .int .i64 (above : Int)] w (QPost w G o p b most above) := by
  have c0 := h.c0
  have c1 := h.c1
  have c2 := h.c2
  have H := hide h
  clear h
  have HFo := hide (fun W => form_any (w := W) hp hb)
  rcases dec_shape (rest b p) 0 0 with ⟨n, m, hD⟩ | ⟨k, hk, hD⟩
  · have HV : Hid (numV b p = n ∧ numQ b p = p + m) := ⟨by unfold numV; rw [hD], by unfold numQ; rw [hD]⟩
    have HFo2 : Hid (∀ W, Calls Tryz.prog 151 #[.string b, .int .i64 (p : Int)] W fun e w' => e = .returned (.tuple #[.int .u64 (n : Int), .int .i64 ((p + m : Nat) : Int), .int .i64 0]) ∧ w' = W) := fun W => (HFo.out W).mono (by
      rintro e w' ⟨rfl, ⟨n', m', hD', rfl⟩ | ⟨k', hk', hD', rfl⟩⟩
      · rw [hD] at hD'; simp only [Prod.mk.injEq, true_and] at hD'; obtain ⟨rfl, rfl⟩ := hD'; exact ⟨rfl, rfl⟩
      · rw [hD] at hD'; simp only [Prod.mk.injEq] at hD'; exact absurd hD'.1.symm hk')
    clear HFo
    by_cases hn : n ≤ most
    · have HK := hide (numK_ok (above := above) hD hn)
      have b0 : decide (most < n) = false := by simp; omega
      clear hD
      go_enter Tryz.func110, Tryz.ntmps110
      go_wp2_with fail
      go_quiet ((go_at_call 151; exact Calls.quiet_of_same (HFo2.out _)))
      go_wp2_with fail
      go_ret2
      exact .inl ⟨HK.out, by rw [HV.out.1, HV.out.2]; rfl, H.out.drewN _, RW.drewN _ _ _ _⟩
    · have HK := hide (numK_above (most := most) (above := above) hD (by omega))
      have b0 : decide (most < n) = true := by simp; omega
      clear hD HV
      go_enter Tryz.func110, Tryz.ntmps110
      go_wp2_with fail
      go_quiet ((go_at_call 151; exact Calls.quiet_of_same (HFo2.out _)))
      go_wp2_with fail
      refine (wrong_live (H.out.drewN _) (above : Int)).mono ?_
      rintro e w2 ⟨⟨u, rfl⟩, hR, hW⟩
      have k1 := hR.c1
      have HR := hide hR
      have HW := hide hW
      clear hR hW
      go_wp2_with fail
      go_quiet (fail)
      go_wp2_with fail
      go_ret2
      exact .inr ⟨by rw [HK.out]; exact ha, rfl, by rw [HK.out]; exact HR.out.drewN _, (RW.drewN _ _ _ _).trans (HW.out.trans (RW.drewN _ _ _ _))⟩
  · have HFo2 : Hid (∀ W, Calls Tryz.prog 151 #[.string b, .int .i64 (p : Int)] W fun e w' => e = .returned (.tuple #[.int .u64 0, .int .i64 0, .int .i64 (k : Int)]) ∧ w' = W) := fun W => (HFo.out W).mono (by
      rintro e w' ⟨rfl, ⟨n', m', hD', rfl⟩ | ⟨k', hk', hD', rfl⟩⟩
      · rw [hD] at hD'; simp only [Prod.mk.injEq] at hD'; exact absurd hD'.1 hk
      · rw [hD] at hD'; simp only [Prod.mk.injEq] at hD'; obtain ⟨rfl, _⟩ := hD'; exact ⟨rfl, rfl⟩)
    clear HFo
    have HK := hide (numK_bad (most := most) (above := above) hD hk)
    have HKK := hide hk
    have b1 : ((k : Int) != 0) = true := by simp; exact hk
    clear hD hk
    go_enter Tryz.func110, Tryz.ntmps110
    go_wp2_with fail
    go_quiet ((go_at_call 151; exact Calls.quiet_of_same (HFo2.out _)))
    go_wp2_with fail
    refine (wrong_live (H.out.drewN _) (k : Int)).mono ?_
    rintro e w2 ⟨⟨u, rfl⟩, hR, hW⟩
    have k1 := hR.c1
    have HR := hide hR
    have HW := hide hW
    clear hR hW
    go_wp2_with fail
    go_quiet (fail)
    go_wp2_with fail
    go_ret2
    exact .inr ⟨by rw [HK.out]; exact HKK.out, rfl, by rw [HK.out]; exact HR.out.drewN _, (RW.drewN _ _ _ _).trans (HW.out.trans (RW.drewN _ _ _ _))⟩
set_option maxHeartbeats 400000 in
theorem number_dead {w : World} {G o : Nat} {b : ByteArray} {p f a : Int} {most above : Int} (h : RR w G o b p f a) (hf : f ≠ 0) :
    Calls Tryz.prog 110 #[.pointer (some ⟨G, o, none⟩), .int .u64 most, .int .i64 above] w fun e w' => e = .returned (.tuple #[.int .u64 0, .int .i64 p]) ∧ ∃ n, w' = w.drewN n := by
  have c1 := h.c1
  have c2 := h.c2
  have b1 : (f != 0) = true := by simpa using hf
  clear h hf
  go_enter Tryz.func110, Tryz.ntmps110
  go_wp2_with fail
  go_quiet (fail)
  go_wp2_with fail
  go_ret2
  exact ⟨rfl, _, rfl⟩
end Go.Proofs.YtkfnedhllfdghaaGreatDoor.W
end

section
namespace Go.Proofs.YtkfnedhllfdghaaGreatDoor.W
set_option maxRecDepth 20000
open Go.RowKit

/-- what a call of the document's reader comes to -/
def HPost (w : World) (G o p : Nat) (b : ByteArray) (A Z : Value) (q k : Nat) (e : Ending) (w' : World) : Prop :=
  (k = 0 ∧ e = .returned A ∧ RR w' G o b q 0 0 ∧ RW G o w w') ∨ (k ≠ 0 ∧ e = .returned Z ∧ RR w' G o b p (k : Int) p ∧ RW G o w w')

set_option maxHeartbeats 400000 in
theorem qnum_live {w : World} {G o p most : Nat} {b : ByteArray} (h : RR w G o b p 0 0) (hp : p ≤ b.size) (hb : b.size ≤ 140737488351232) :
    Calls Tryz.prog 59 #[.pointer (some ⟨G, o, none⟩), .int .u64 (most : Int)] w (HPost w G o p b (.int .u64 (numV b p : Int)) (.int .u64 0) (numQ b p) (numK b p most 21)) := by
  have HN := hide (number_live (most := most) (above := 21) h hp hb (by decide))
  clear h
  go_enter Tryz.func59, Tryz.ntmps59
  go_wp2_with fail
  refine HN.out.mono ?_
  rintro e w1 (⟨hk, rfl, hR, hW⟩ | ⟨hk, rfl, hR, hW⟩)
  · have c1 := hR.c1
    have z1 := hR.z (o + 1)
    have HK := hide hk
    have HE := hide (And.intro (hR.set1 (numQ b p)) (hW.trans (RW.set G o w1 1 (by decide) (.int .i64 (numQ b p : Int)))))
    clear hk hR hW
    go_wp2_with fail
    go_ret
    exact .inl ⟨HK.out, rfl, HE.out.1, HE.out.2⟩
  · have c1 := hR.c1
    have z1 := hR.z (o + 1)
    have HK := hide hk
    have HE := hide (And.intro (hR.set1 (p : Int)) (hW.trans (RW.set G o w1 1 (by decide) (.int .i64 (p : Int)))))
    clear hk hR hW
    go_wp2_with fail
    go_ret
    exact .inr ⟨HK.out, rfl, HE.out.1, HE.out.2⟩
set_option maxHeartbeats 400000 in
theorem qnum_dead {w : World} {G o : Nat} {b : ByteArray} {p f a most : Int} (h : RR w G o b p f a) (hf : f ≠ 0) :
    Calls Tryz.prog 59 #[.pointer (some ⟨G, o, none⟩), .int .u64 most] w fun e w' => e = .returned (.int .u64 0) ∧ RR w' G o b p f a ∧ RW G o w w' := by
  have H := hide h
  have c1 := h.c1
  have z1 := h.z (o + 1)
  go_enter Tryz.func59, Tryz.ntmps59
  go_wp2_with fail
  refine (number_dead H.out hf).mono ?_
  rintro e w1 ⟨rfl, n, rfl⟩
  have HE := hide (And.intro ((H.out.drewN n).set1 p) ((RW.drewN G o w n).trans (RW.set G o _ 1 (by decide) (.int .i64 p))))
  clear h
  go_wp2_with fail
  go_ret
  exact ⟨rfl, HE.out.1, HE.out.2⟩

theorem numV_le {b : ByteArray} {p most above : Nat} (ha : above ≠ 0) (h : numK b p most above = 0) : numV b p ≤ most := by
  unfold numK at h
  unfold numV
  split at h
  · next h1 => exact absurd h h1
  · split at h
    · exact absurd h ha
    · omega

set_option maxHeartbeats 400000 in
theorem qlist_live {w : World} {G o p : Nat} {most : Int} {b : ByteArray} (hm : most ≤ 9223372036854775807) (h : RR w G o b p 0 0) (hp : p ≤ b.size) (hb : b.size ≤ 140737488351232) :
    Calls Tryz.prog 116 #[.pointer (some ⟨G, o, none⟩), .int .i64 most] w (HPost w G o p b (.int .i64 (numV b p : Int)) (.int .i64 0) (numQ b p) (numK b p most.toNat 23)) := by
  have HN := hide (number_live (most := most.toNat) (above := 23) h hp hb (by decide))
  clear h
  by_cases h0 : most < 0
  all_goals
    (first | (have e0 : ((most.toNat : Nat) : Int) = 0 := by omega) | (have e0 : ((most.toNat : Nat) : Int) = most := by omega))
    rw [e0] at HN
    clear e0
    go_enter Tryz.func116, Tryz.ntmps116
    go_wp2_with fail
    refine HN.out.mono ?_
    rintro e w1 (⟨hk, rfl, hR, hW⟩ | ⟨hk, rfl, hR, hW⟩)
    · have c1 := hR.c1
      have z1 := hR.z (o + 1)
      have hv := numV_le (by decide) hk
      have hv2 : (numV b p : Int) ≤ 9223372036854775807 := by omega
      have HK := hide hk
      have HE := hide (And.intro (hR.set1 (numQ b p)) (hW.trans (RW.set G o w1 1 (by decide) (.int .i64 (numQ b p : Int)))))
      clear hk hR hW hv
      go_wp2_with fail
      go_ret
      exact .inl ⟨HK.out, rfl, HE.out.1, HE.out.2⟩
    · have c1 := hR.c1
      have z1 := hR.z (o + 1)
      have HK := hide hk
      have HE := hide (And.intro (hR.set1 (p : Int)) (hW.trans (RW.set G o w1 1 (by decide) (.int .i64 (p : Int)))))
      clear hk hR hW
      go_wp2_with fail
      go_ret
      exact .inr ⟨HK.out, rfl, HE.out.1, HE.out.2⟩
set_option maxHeartbeats 400000 in
theorem qlist_dead {w : World} {G o : Nat} {b : ByteArray} {p f a most : Int} (hm : most ≤ 9223372036854775807) (h : RR w G o b p f a) (hf : f ≠ 0) :
    Calls Tryz.prog 116 #[.pointer (some ⟨G, o, none⟩), .int .i64 most] w fun e w' => e = .returned (.int .i64 0) ∧ RR w' G o b p f a ∧ RW G o w w' := by
  have H := hide h
  have c1 := h.c1
  have z1 := h.z (o + 1)
  clear h
  by_cases h0 : most < 0
  all_goals
    go_enter Tryz.func116, Tryz.ntmps116
    go_wp2_with fail
    refine (number_dead H.out hf).mono ?_
    rintro e w1 ⟨rfl, n, rfl⟩
    have HE := hide (And.intro ((H.out.drewN n).set1 p) ((RW.drewN G o w n).trans (RW.set G o _ 1 (by decide) (.int .i64 p))))
    go_wp2_with fail
    go_ret
    exact ⟨rfl, HE.out.1, HE.out.2⟩

set_option maxHeartbeats 1000000 in
theorem qend_any {w : World} {G o : Nat} {b : ByteArray} {p f : Int} (h : RR w G o b p f (if f = 0 then 0 else p)) :
    Calls Tryz.prog 63 #[.pointer (some ⟨G, o, none⟩)] w fun e w' => e = .returned (.tuple #[.int .i64 (endE b p f), .int .i64 (endP b p f)]) ∧ ∃ n, w' = w.drewN n := by
  have c0 := h.c0
  have c1 := h.c1
  have c2 := h.c2
  have c3 := h.c3
  clear h
  by_cases hf : f = 0
  · subst hf
    rw [if_pos rfl] at c3
    by_cases hl : p < (b.size : Int)
    · have e1 : endE b p 0 = 24 := by unfold endE; rw [if_pos ⟨rfl, hl⟩]
      have e2 : endP b p 0 = p := by unfold endP; rw [if_neg (fun k => k.2 hl)]
      rw [e1, e2]
      have hl' : decide (p < (b.size : Int)) = true := by simp; omega
      clear e1 e2 hl
      go_enter Tryz.func63, Tryz.ntmps63
      go_wp2_with fail
      go_quiet (fail)
      go_wp2_with fail
      go_quiet (fail)
      go_wp2_with fail
      go_ret2
      exact ⟨rfl, _, World.drewN_drewN _ _ _⟩
    · have e1 : endE b p 0 = 0 := by unfold endE; rw [if_neg (fun k => hl k.2)]
      have e2 : endP b p 0 = 0 := by unfold endP; rw [if_pos ⟨rfl, hl⟩]
      rw [e1, e2]
      have hl' : decide (p < (b.size : Int)) = false := by simp; omega
      clear e1 e2 hl
      go_enter Tryz.func63, Tryz.ntmps63
      go_wp2_with fail
      go_quiet (fail)
      go_wp2_with fail
      go_quiet (fail)
      go_wp2_with fail
      go_ret2
      exact ⟨rfl, _, World.drewN_drewN _ _ _⟩
  · have e1 : endE b p f = f := by unfold endE; rw [if_neg (fun k => hf k.1)]
    have e2 : endP b p f = p := by unfold endP; rw [if_neg (fun k => hf k.1)]
    rw [e1, e2]
    rw [if_neg hf] at c3
    have hf' : (f == 0) = false := by rw [beq_eq_false_iff_ne]; exact hf
    clear e1 e2 hf
    go_enter Tryz.func63, Tryz.ntmps63
    go_wp2_with fail
    go_quiet (fail)
    go_wp2_with fail
    go_quiet (fail)
    go_wp2_with fail
    go_ret2
    exact ⟨rfl, _, World.drewN_drewN _ _ _⟩
end Go.Proofs.YtkfnedhllfdghaaGreatDoor.W
end

section
namespace Go.Proofs.YtkfnedhllfdghaaGreatDoor.W
set_option maxRecDepth 20000
open Go.RowKit

set_option maxHeartbeats 1000000 in
theorem qtext_live {w : World} {G o p : Nat} {most : Int} {b : ByteArray} (hm : most ≤ 9223372036854775807) (h : RR w G o b p 0 0) (hp : p ≤ b.size) (hb : b.size ≤ 140737488351232) :
    Calls Tryz.prog 62 #[.pointer (some ⟨G, o, none⟩), .int .i64 most] w (HPost w G o p b (.string (textV b p)) (.string ⟨#[]⟩) (numQ b p + numV b p) (textK b p most.toNat)) := by
  have HN := hide (number_live (most := most.toNat) (above := 23) h hp hb (by decide))
  clear h
  by_cases h0 : most < 0
  all_goals
    (first | (have e0 : ((most.toNat : Nat) : Int) = 0 := by omega) | (have e0 : ((most.toNat : Nat) : Int) = most := by omega))
    rw [e0] at HN
    clear e0
    go_enter Tryz.func62, Tryz.ntmps62
    go_wp2_with fail
    refine HN.out.mono ?_
    rintro e w1 (⟨hk, rfl, hR, hW⟩ | ⟨hk, rfl, hR, hW⟩)
    · have c0 := hR.c0
      have c1 := hR.c1
      have c2 := hR.c2
      have z1 := hR.z (o + 1)
      obtain ⟨_, n1, n2, n3⟩ := num_parts b p most.toNat hp hk
      have hTK : textK b p most.toNat = if b.size < numQ b p + numV b p then 20 else 0 := by unfold textK; rw [if_neg (by simpa using hk)]
      have HTV : Hid (textV b p = b.extract (numQ b p) (numQ b p + numV b p)) := rfl
      have HTK := hide hTK
      have HR := hide hR
      have HW := hide hW
      clear hk hR hW hTK
      generalize numQ b p = mq at *
      generalize numV b p = mv at *
      by_cases hs : b.size < mq + mv
      · first
        | (exfalso; omega)
        | (have b1 : decide ((b.size : Int) - (mq : Int) < (mv : Int)) = true := by simp; omega
           have HS := hide hs
           clear hs
           go_wp2_with fail
           refine (wrong_live HR.out 20).mono ?_
           rintro e w2 ⟨⟨u, rfl⟩, hR2, hW2⟩
           have k2 := hR2.c2
           have HR2 := hide hR2
           have HW2 := hide hW2
           clear hR2 hW2
           go_wp2_with fail
           go_ret
           exact .inr ⟨by rw [HTK.out, if_pos HS.out]; decide, rfl, by rw [HTK.out, if_pos HS.out]; exact HR2.out, HW.out.trans HW2.out⟩)
      · have b1 : decide ((b.size : Int) - (mq : Int) < (mv : Int)) = false := by simp; omega
        have hnv : (mv : Int) ≤ 9223372036854775807 := by omega
        have HE := hide (And.intro (HR.out.set1 ((mq + mv : Nat) : Int)) (HW.out.trans (RW.set G o w1 1 (by decide) (.int .i64 ((mq + mv : Nat) : Int)))))
        have hle : mq + mv ≤ b.size := by omega
        go_wp2_with fail
        go_quiet (fail)
        go_wp2_with fail
        go_ret
        exact .inl ⟨by rw [HTK.out, if_neg (by omega)], by rw [HTV.out]; rfl, HE.out.1.drewN _, HE.out.2.trans (RW.drewN _ _ _ _)⟩
    · have c2 := hR.c2
      have hTK : textK b p most.toNat = numK b p most.toNat 23 := by unfold textK; rw [if_pos hk]
      have b1 : ((numK b p most.toNat 23 : Int) == 0) = false := by rw [beq_eq_false_iff_ne]; omega
      have b2 : ((numK b p most.toNat 23 : Int) != 0) = true := by rw [bne_iff_ne]; omega
      have HTK := hide hTK
      have HK := hide hk
      have HR := hide hR
      have HW := hide hW
      clear hk hR hW hTK
      generalize numK b p most.toNat 23 = kk at *
      go_wp2_with fail
      go_ret
      exact .inr ⟨by rw [HTK.out]; exact HK.out, rfl, by rw [HTK.out]; exact HR.out, HW.out⟩
set_option maxHeartbeats 400000 in
theorem qtext_dead {w : World} {G o : Nat} {b : ByteArray} {p f a most : Int} (hm : most ≤ 9223372036854775807) (h : RR w G o b p f a) (hf : f ≠ 0) :
    Calls Tryz.prog 62 #[.pointer (some ⟨G, o, none⟩), .int .i64 most] w fun e w' => e = .returned (.string ⟨#[]⟩) ∧ RR w' G o b p f a ∧ RW G o w w' := by
  have H := hide h
  have c2 := h.c2
  have b1 : (f == 0) = false := by rw [beq_eq_false_iff_ne]; exact hf
  have b2 : (f != 0) = true := by rw [bne_iff_ne]; exact hf
  clear h
  by_cases h0 : most < 0
  all_goals
    go_enter Tryz.func62, Tryz.ntmps62
    go_wp2_with fail
    refine (number_dead H.out hf).mono ?_
    rintro e w1 ⟨rfl, n, rfl⟩
    go_wp2_with fail
    go_ret
    exact ⟨rfl, H.out.drewN n, RW.drewN G o w n⟩

set_option maxHeartbeats 1000000 in
theorem qbits_live {w : World} {G o p : Nat} {b : ByteArray} (h : RR w G o b p 0 0) (hp : p ≤ b.size) (hb : b.size ≤ 140737488351232) :
    Calls Tryz.prog 61 #[.pointer (some ⟨G, o, none⟩)] w (HPost w G o p b (.int .u64 (bitsV b p : Int)) (.int .u64 0) (p + 8) (bitsK b p)) := by
  have c0 := h.c0
  have c1 := h.c1
  have c2 := h.c2
  have z1 := h.z (o + 1)
  have H := hide h
  clear h
  by_cases hs : b.size < p + 8
  · have HK : Hid (bitsK b p = 20) := if_pos hs
    have b1 : decide ((b.size : Int) - (p : Int) < 8) = true := by simp; omega
    go_enter Tryz.func61, Tryz.ntmps61
    go_wp2_with fail
    go_quiet (fail)
    go_wp2_with fail
    refine (wrong_live (H.out.drewN _) 20).mono ?_
    rintro e w2 ⟨⟨u, rfl⟩, hR2, hW2⟩
    have k2 := hR2.c2
    have HR2 := hide hR2
    have HW2 := hide hW2
    clear hR2 hW2
    go_wp2_with fail
    go_ret
    exact .inr ⟨by rw [HK.out]; decide, rfl, by rw [HK.out]; exact HR2.out, (RW.drewN _ _ _ _).trans HW2.out⟩
  · have HK : Hid (bitsK b p = 0) := if_neg hs
    have b1 : decide ((b.size : Int) - (p : Int) < 8) = false := by simp; omega
    go_enter Tryz.func61, Tryz.ntmps61
    go_wp2_with fail
    go_quiet (fail)
    go_wp2_with fail
    go_loopw [3, 4] (fun v i wr => ∃ k : Nat, k ≤ 8 ∧ i = .int .i64 (k : Int) ∧ v = .int .u64 (Pk.fold8 ((rest b p).take k) : Int) ∧ ∃ n, wr = w.drewN n) (fun _ i _ => 8 - (intOf i).toNat)
    case atStart => exact ⟨0, by omega, rfl, rfl, _, rfl⟩
    case round =>
      obtain ⟨k, hk8, rfl, rfl, n, rfl⟩ := hrel
      by_cases hk : k < 8
      · have hi : 0 ≤ (p : Int) + (k : Int) ∧ (p : Int) + (k : Int) < (b.size : Int) := by omega
        have hl2 : p + k < b.size := by omega
        have hlen : (rest b p).length = b.size - p := rest_len b p
        obtain ⟨c, hc⟩ : ∃ c : UInt8, b[((p : Int) + (k : Int)).toNat]'(by omega) = c := ⟨_, rfl⟩
        have hcb : c.toNat < 256 := UInt8.toNat_lt c
        have hcc : (rest b p).getD k 0 = c := by
          have h1 := rest_at b p k hl2
          have h2 : (rest b p)[k]? = some b[p + k] := by
            have := congrArg (fun l => l[0]?) h1
            simpa using this
          rw [List.getD_eq_getElem?_getD, h2, ← hc]
          simp only [Option.getD_some]
          congr 1
        have HE : Hid (bits .or .u64 (IntKind.u64.wrap ((Pk.fold8 ((rest b p).take k) : Int) * 256)) (c.toNat : Int) = (Pk.fold8 ((rest b p).take (k + 1)) : Int)) := by
          rw [Pk.fold8_take _ k (by omega), hcc]
          exact or8 _ _ (Pk.fold8_small _ k (by omega) hk) hcb
        have hkI : (k : Int) < 8 := by omega
        clear hcc
        go_wp2_with fail
        go_quiet (fail)
        go_wp2_with fail
        exact ⟨⟨k + 1, by omega, by go_num, by rw [HE.out], _, rfl⟩, by simp [intOf]; omega⟩
      · have hk' : k = 8 := by omega
        subst hk'
        have HV : Hid (bitsV b p = Pk.fold8 ((rest b p).take 8)) := rfl
        have HE := hide (And.intro ((H.out.drewN n).set1 ((p + 8 : Nat) : Int)) ((RW.drewN G o w n).trans (RW.set G o _ 1 (by decide) (.int .i64 ((p + 8 : Nat) : Int)))))
        go_wp2_with fail
        go_ret
        exact .inl ⟨HK.out, by rw [HV.out]; rfl, HE.out.1, HE.out.2⟩
set_option maxHeartbeats 400000 in
theorem qbits_dead {w : World} {G o : Nat} {b : ByteArray} {p f a : Int} (h : RR w G o b p f a) (hf : f ≠ 0) :
    Calls Tryz.prog 61 #[.pointer (some ⟨G, o, none⟩)] w fun e w' => e = .returned (.int .u64 0) ∧ RR w' G o b p f a ∧ RW G o w w' := by
  have H := hide h
  have c2 := h.c2
  have b1 : (f == 0) = false := by rw [beq_eq_false_iff_ne]; exact hf
  have b2 : (f != 0) = true := by rw [bne_iff_ne]; exact hf
  clear h
  go_enter Tryz.func61, Tryz.ntmps61
  go_wp2_with fail
  go_quiet (fail)
  go_wp2_with fail
  go_ret
  exact ⟨rfl, H.out.drewN _, RW.drewN G o w _⟩
end Go.Proofs.YtkfnedhllfdghaaGreatDoor.W
end

section
namespace Go.Proofs.YtkfnedhllfdghaaGreatDoor.W
set_option maxRecDepth 20000
open Go.RowKit Go.Shelf
open Wr (Ms V L)

def aD (p f : Nat) : Int := if (f : Int) = 0 then 0 else (p : Int)
theorem aD0 (p : Nat) : aD p 0 = 0 := rfl
theorem aDn {p f : Nat} (h : f ≠ 0) : aD p f = p := if_neg (by omega)
theorem dnumP {w : World} {G p f most : Nat} {b : ByteArray} (h : RR w G 0 b p f (aD p f)) (hp : p ≤ b.size) (hb : b.size ≤ 140737488351232) :
    Calls Tryz.prog 59 #[.pointer (some ⟨G, 0, none⟩), .int .u64 (most : Int)] w fun e w' => e = .returned (.int .u64 ((Wr.rdN b most p f).1 : Int)) ∧ RR w' G 0 b ((Wr.rdN b most p f).2.1 : Int) ((Wr.rdN b most p f).2.2 : Int) (aD (Wr.rdN b most p f).2.1 (Wr.rdN b most p f).2.2) ∧ RW G 0 w w' := by
  by_cases hf : f = 0
  · subst hf
    refine (qnum_live (most := most) h hp hb).mono ?_
    rintro e w' (⟨hk, e1, e2, e3⟩ | ⟨hk, e1, e2, e3⟩)
    · unfold Wr.rdN; rw [if_neg (by simp), if_pos hk]; exact ⟨e1, e2, e3⟩
    · unfold Wr.rdN; rw [if_neg (by simp), if_neg hk]; exact ⟨e1, by rw [aDn hk]; exact e2, e3⟩
  · refine (qnum_dead (most := (most : Int)) h (by omega)).mono ?_
    rintro e w' ⟨e1, e2, e3⟩
    rw [Wr.rdN_dead hf]; exact ⟨e1, e2, e3⟩
theorem dtextP {w : World} {G p f most : Nat} {b : ByteArray} (hm : most ≤ 9223372036854775807) (h : RR w G 0 b p f (aD p f)) (hp : p ≤ b.size) (hb : b.size ≤ 140737488351232) :
    Calls Tryz.prog 62 #[.pointer (some ⟨G, 0, none⟩), .int .i64 (most : Int)] w fun e w' => e = .returned (.string (Wr.rdT b most p f).1) ∧ RR w' G 0 b ((Wr.rdT b most p f).2.1 : Int) ((Wr.rdT b most p f).2.2 : Int) (aD (Wr.rdT b most p f).2.1 (Wr.rdT b most p f).2.2) ∧ RW G 0 w w' := by
  by_cases hf : f = 0
  · subst hf
    refine (qtext_live (most := (most : Int)) (by omega) h hp hb).mono ?_
    rw [show ((most : Int)).toNat = most from rfl]
    rintro e w' (⟨hk, e1, e2, e3⟩ | ⟨hk, e1, e2, e3⟩)
    · unfold Wr.rdT; rw [if_neg (by simp), if_pos hk]; exact ⟨e1, e2, e3⟩
    · unfold Wr.rdT; rw [if_neg (by simp), if_neg hk]; exact ⟨e1, by rw [aDn hk]; exact e2, e3⟩
  · refine (qtext_dead (most := (most : Int)) (by omega) h (by omega)).mono ?_
    rintro e w' ⟨e1, e2, e3⟩
    rw [Wr.rdT_dead hf]; exact ⟨e1, e2, e3⟩
theorem dbitsP {w : World} {G p f : Nat} {b : ByteArray} (h : RR w G 0 b p f (aD p f)) (hp : p ≤ b.size) (hb : b.size ≤ 140737488351232) :
    Calls Tryz.prog 61 #[.pointer (some ⟨G, 0, none⟩)] w fun e w' => e = .returned (.int .u64 ((Wr.rdB b p f).1 : Int)) ∧ RR w' G 0 b ((Wr.rdB b p f).2.1 : Int) ((Wr.rdB b p f).2.2 : Int) (aD (Wr.rdB b p f).2.1 (Wr.rdB b p f).2.2) ∧ RW G 0 w w' := by
  by_cases hf : f = 0
  · subst hf
    refine (qbits_live h hp hb).mono ?_
    rintro e w' (⟨hk, e1, e2, e3⟩ | ⟨hk, e1, e2, e3⟩)
    · unfold Wr.rdB; rw [if_neg (by simp), if_pos hk]; exact ⟨e1, e2, e3⟩
    · unfold Wr.rdB; rw [if_neg (by simp), if_neg hk]; exact ⟨e1, by rw [aDn hk]; exact e2, e3⟩
  · refine (qbits_dead h (by omega)).mono ?_
    rintro e w' ⟨e1, e2, e3⟩
    rw [Wr.rdB_dead hf]; exact ⟨e1, e2, e3⟩
def limD (_ : Int) : L → Nat
  | .T => 2048 | .P => 2048 | _ => 1099511627776
theorem lim_d : Wr.Lim limD := ⟨fun k l => by cases l <;> simp only [limD] <;> decide, fun k l => by cases l <;> simp only [Wr.most, limD] <;> (try split) <;> decide⟩
/-- the document's letters, one that is none beside them -/
def lsO (k : Int) : List (Option L) := if k < 1 ∨ 16 < k then [none] else (Wr.letters k).map some
def rdsO (b : ByteArray) (lim : L → Nat) : List (Option L) → Nat → Nat → Ms → Nat × Nat × Ms
  | [], p, f, m => (p, f, m)
  | none :: ls, p, f, m => rdsO b lim ls p f m
  | some l :: ls, p, f, m => rdsO b lim ls (Wr.rd b lim l p f).2.1 (Wr.rd b lim l p f).2.2 (Wr.set l (Wr.rd b lim l p f).1 m)
theorem rdsO_some (b : ByteArray) (lim : L → Nat) (ls : List L) : ∀ p f m, rdsO b lim (ls.map some) p f m = Wr.rds b lim ls p f m := by
  induction ls with
  | nil => intro p f m; rfl
  | cons l ls ih => intro p f m; simp only [List.map_cons, rdsO, Wr.rds]; exact ih _ _ _
theorem rdsO_k (b : ByteArray) (lim : L → Nat) (k : Nat) (hk : k ≤ 16) (p f : Nat) (m : Ms) : rdsO b lim (lsO k) p f m = Wr.rds b lim (Wr.letters k) p f m := by
  unfold lsO
  by_cases h : (k : Int) < 1 ∨ 16 < (k : Int)
  · rw [if_pos h]
    obtain rfl : k = 0 := by omega
    rfl
  · rw [if_neg h]; exact rdsO_some b lim _ p f m
def lowO : Option L → UInt8
  | none => 63 | some l => lowB l
theorem lsO_len (k : Int) : (nstr k).size = (lsO k).length := by
  unfold nstr lsO
  by_cases h : k < 1 ∨ 16 < k
  · rw [if_pos h, if_pos h]; rfl
  · rw [if_neg h, if_neg h]; show (List.toArray _).size = _; simp
theorem lsO_at (k : Int) (i : Nat) (hi : i < (lsO k).length) (hs : i < (nstr k).size) : (nstr k)[i]'hs = lowO (lsO k)[i] := by
  have e : (nstr k).data.toList = (lsO k).map lowO := by
    unfold nstr lsO
    by_cases h : k < 1 ∨ 16 < k
    · rw [if_pos h, if_pos h]; rfl
    · rw [if_neg h, if_neg h, List.map_map]; rfl
  have h : i < (nstr k).data.toList.length := hs
  have : (nstr k)[i]'hs = (nstr k).data.toList[i]'h := rfl
  rw [this]
  simp only [e, List.getElem_map]
theorem rdsO_drop {b : ByteArray} {lim : L → Nat} {ls : List (Option L)} {i : Nat} (hi : i < ls.length) (p f : Nat) (mi : Ms) : rdsO b lim (ls.drop i) p f mi = rdsO b lim (ls[i] :: ls.drop (i + 1)) p f mi := by
  rw [List.drop_eq_getElem_cons hi]
structure DdI (w : World) (A G : Nat) (b : ByteArray) (ls : List (Option L)) (R : Nat × Nat × Ms) (i p f : Nat) (mi : Ms) (wr : World) : Prop where
  mg : Mg wr A mi
  rr : RR wr G 0 b p f (aD p f)
  ple : p ≤ b.size
  bl : Below (w.heap.size + 1) (w.alloc (.cells (msgC (Wr.zM 0)) 67)) wr
  eq : R = rdsO b (limD 0) (ls.drop i) p f mi
theorem RW.bl {w wr w5 : World} {G : Nat} {o : Obj} (h : RW G 0 wr w5) (hb : Below (w.heap.size + 1) (w.alloc o) wr) (hG : w.heap.size + 1 ≤ G) : Below (w.heap.size + 1) (w.alloc o) w5 :=
  ⟨h.os.trans hb.os, h.tape.trans hb.tape, h.output.trans hb.output, by rw [h.size]; exact hb.size, fun j hj => (h.other j (by omega)).trans (hb.block j hj)⟩
theorem bl_set {w w5 : World} {A : Nat} {o : Obj} (hb : Below (w.heap.size + 1) (w.alloc o) w5) (hA : w.heap.size + 1 ≤ A) (k : Nat) (v : Value) : Below (w.heap.size + 1) (w.alloc o) (w5.setCell ⟨A, k, none⟩ v) :=
  ⟨hb.os, hb.tape, hb.output, by simpa using hb.size, fun j hj => (Below.heap_setCell w5 _ v j (by show j ≠ A; omega)).trans (hb.block j hj)⟩
theorem DdI.sw {w : World} {A G : Nat} {b : ByteArray} {ls : List (Option L)} {R : Nat × Nat × Ms} {i p f : Nat} {mi : Ms} {wr w5 : World} (h : DdI w A G b ls R i p f mi wr) (hi : i < ls.length) {l : L} (hl : ls[i] = some l) (hw : isW l = true) (hlim : limD 0 l = 1099511627776) (hAG : A ≠ G) (hA : w.heap.size + 1 ≤ A) (hG : w.heap.size + 1 ≤ G)
    (hr : RR w5 G 0 b ((Wr.rdN b 1099511627776 p f).2.1 : Int) ((Wr.rdN b 1099511627776 p f).2.2 : Int) (aD (Wr.rdN b 1099511627776 p f).2.1 (Wr.rdN b 1099511627776 p f).2.2)) (hW : RW G 0 wr w5) :
    DdI w A G b ls R (i + 1) (Wr.rdN b 1099511627776 p f).2.1 (Wr.rdN b 1099511627776 p f).2.2 (Wr.set l ⟨((Wr.rdN b 1099511627776 p f).1 : Int), 0, Wr.e0⟩ mi) (w5.setCell ⟨A, off l, none⟩ (.int .i64 ((Wr.rdN b 1099511627776 p f).1 : Int))) :=
  ⟨(h.mg.block (hW.other A hAG)).sw hw _, hr.keep (Below.heap_setCell _ _ _ _ (Ne.symm hAG)), (Wr.rdN_le _ _ _ _ h.ple).2, bl_set (hW.bl h.bl hG) hA _ _, by
    rw [h.eq, rdsO_drop hi, hl, rdsO, rd_w b _ hw, hlim]⟩
theorem DdI.st {w : World} {A G : Nat} {b : ByteArray} {ls : List (Option L)} {R : Nat × Nat × Ms} {i p f : Nat} {mi : Ms} {wr w5 : World} (h : DdI w A G b ls R i p f mi wr) (hi : i < ls.length) {l : L} (hl : ls[i] = some l) (hw : isT l = true) (hlim : limD 0 l = 2048) (hAG : A ≠ G) (hA : w.heap.size + 1 ≤ A) (hG : w.heap.size + 1 ≤ G)
    (hr : RR w5 G 0 b ((Wr.rdT b 2048 p f).2.1 : Int) ((Wr.rdT b 2048 p f).2.2 : Int) (aD (Wr.rdT b 2048 p f).2.1 (Wr.rdT b 2048 p f).2.2)) (hW : RW G 0 wr w5) :
    DdI w A G b ls R (i + 1) (Wr.rdT b 2048 p f).2.1 (Wr.rdT b 2048 p f).2.2 (Wr.set l ⟨0, 0, (Wr.rdT b 2048 p f).1⟩ mi) (w5.setCell ⟨A, off l, none⟩ (.string (Wr.rdT b 2048 p f).1)) :=
  ⟨(h.mg.block (hW.other A hAG)).st hw _, hr.keep (Below.heap_setCell _ _ _ _ (Ne.symm hAG)), rdT_le _ _ _ _ h.ple, bl_set (hW.bl h.bl hG) hA _ _, by
    rw [h.eq, rdsO_drop hi, hl, rdsO, rd_t b _ hw, hlim]⟩
theorem DdI.sr {w : World} {A G : Nat} {b : ByteArray} {ls : List (Option L)} {R : Nat × Nat × Ms} {i p f : Nat} {mi : Ms} {wr w5 w6 : World} (h : DdI w A G b ls R i p f mi wr) (hi : i < ls.length) (hl : ls[i] = some .R) (hAG : A ≠ G) (hA : w.heap.size + 1 ≤ A) (hG : w.heap.size + 1 ≤ G)
    (hW : RW G 0 wr w5) (hW2 : RW G 0 (w5.setCell ⟨A, 7, none⟩ (.int .i64 ((Wr.rdN b 1099511627776 p f).1 : Int))) w6)
    (hr : RR w6 G 0 b ((Wr.rdB b (Wr.rdN b 1099511627776 p f).2.1 (Wr.rdN b 1099511627776 p f).2.2).2.1 : Int) ((Wr.rdB b (Wr.rdN b 1099511627776 p f).2.1 (Wr.rdN b 1099511627776 p f).2.2).2.2 : Int) (aD (Wr.rdB b (Wr.rdN b 1099511627776 p f).2.1 (Wr.rdN b 1099511627776 p f).2.2).2.1 (Wr.rdB b (Wr.rdN b 1099511627776 p f).2.1 (Wr.rdN b 1099511627776 p f).2.2).2.2)) :
    DdI w A G b ls R (i + 1) (Wr.rdB b (Wr.rdN b 1099511627776 p f).2.1 (Wr.rdN b 1099511627776 p f).2.2).2.1 (Wr.rdB b (Wr.rdN b 1099511627776 p f).2.1 (Wr.rdN b 1099511627776 p f).2.2).2.2 (Wr.set .R ⟨((Wr.rdN b 1099511627776 p f).1 : Int), (Wr.rdB b (Wr.rdN b 1099511627776 p f).2.1 (Wr.rdN b 1099511627776 p f).2.2).1, Wr.e0⟩ mi) (w6.setCell ⟨A, 8, none⟩ (.int .u64 ((Wr.rdB b (Wr.rdN b 1099511627776 p f).2.1 (Wr.rdN b 1099511627776 p f).2.2).1 : Int))) := by
  have m1 := cells_set (h.mg.block (hW.other A hAG)) 7 (.int .i64 ((Wr.rdN b 1099511627776 p f).1 : Int))
  have m2 := cells_set ((hW2.other A hAG).trans m1) 8 (.int .u64 ((Wr.rdB b (Wr.rdN b 1099511627776 p f).2.1 (Wr.rdN b 1099511627776 p f).2.2).1 : Int))
  exact ⟨m2, hr.keep (Below.heap_setCell _ _ _ _ (Ne.symm hAG)), rdB_le _ _ _ (Wr.rdN_le _ _ _ _ h.ple).2, bl_set (hW2.bl (bl_set (hW.bl h.bl hG) hA _ _) hG) hA _ _, by
    rw [h.eq, rdsO_drop hi, hl, rdsO]; rfl⟩
theorem DdI.sn {w : World} {A G : Nat} {b : ByteArray} {ls : List (Option L)} {R : Nat × Nat × Ms} {i p f : Nat} {mi : Ms} {wr : World} (h : DdI w A G b ls R i p f mi wr) (hi : i < ls.length) (hl : ls[i] = none) : DdI w A G b ls R (i + 1) p f mi wr :=
  ⟨h.mg, h.rr, h.ple, h.bl, by rw [h.eq, rdsO_drop hi, hl, rdsO]⟩
end Go.Proofs.YtkfnedhllfdghaaGreatDoor.W
end
