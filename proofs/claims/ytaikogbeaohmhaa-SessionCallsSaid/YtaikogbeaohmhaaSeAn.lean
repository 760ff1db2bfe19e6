import Derived.Test.YtaikogbeaohmhaaSeX
import Derived.Test.YtaikogbeaohmhaaSeQ
namespace Go.Proofs.Ytaikogbeaohmhaa
open Go.RowKit

theorem Sr.thirteen {w : World} {ad : Option Addr} {ab ao : Nat} {L : List Oc} (h : Sr Oc.cs 13 w ad ab ao L) {i : Nat} (hi : i < L.length) :
    w.cell? ⟨ab, ao + i * 13, none⟩ = some (.int .i64 (L[i]).k) ∧ w.cell? ⟨ab, ao + i * 13 + 1, none⟩ = some (.int .i64 (L[i]).on) ∧ w.cell? ⟨ab, ao + i * 13 + 2, none⟩ = some (.int .i64 (L[i]).m.k) ∧ w.cell? ⟨ab, ao + i * 13 + 3, none⟩ = some (.int .i64 (L[i]).m.se) ∧ w.cell? ⟨ab, ao + i * 13 + 4, none⟩ = some (.int .i64 (L[i]).m.nu) ∧ w.cell? ⟨ab, ao + i * 13 + 5, none⟩ = some (.int .i64 (L[i]).m.jo) ∧ w.cell? ⟨ab, ao + i * 13 + 6, none⟩ = some (.int .i64 (L[i]).m.ba) ∧ w.cell? ⟨ab, ao + i * 13 + 7, none⟩ = some (.int .i64 (L[i]).m.ix) ∧ w.cell? ⟨ab, ao + i * 13 + 8, none⟩ = some (.int .i64 (L[i]).m.co) ∧ w.cell? ⟨ab, ao + i * 13 + 9, none⟩ = some (.int .i64 (L[i]).m.rc) ∧ w.cell? ⟨ab, ao + i * 13 + 10, none⟩ = some (.int .u64 ((L[i]).m.rb : Int)) ∧ w.cell? ⟨ab, ao + i * 13 + 11, none⟩ = some (.string (L[i]).m.tx) ∧ w.cell? ⟨ab, ao + i * 13 + 12, none⟩ = some (.string (L[i]).m.pr) :=
  ⟨h.c i hi 0 (by decide), h.c i hi 1 (by decide), h.c i hi 2 (by decide), h.c i hi 3 (by decide), h.c i hi 4 (by decide), h.c i hi 5 (by decide), h.c i hi 6 (by decide), h.c i hi 7 (by decide), h.c i hi 8 (by decide), h.c i hi 9 (by decide), h.c i hi 10 (by decide), h.c i hi 11 (by decide), h.c i hi 12 (by decide)⟩
/-- a caller that the law made -/
structure Ca (w0 : World) (b : Nat) (c : Cl) (w : World) : Prop where
  ok : c.ok
  cb : Cb w b c
  low : w0.heap.size ≤ b
  bel : Below w0.heap.size w0 w
theorem Ca.on {w0 w w' : World} {b : Nat} {c c' : Cl} (h : Ca w0 b c w) (hc : Cb w' b c') (hk : c'.ok) (ho : On b w w') : Ca w0 b c' w' := ⟨hk, hc, h.low, h.bel.trans (ho.below h.low h.bel.size)⟩
theorem Ca.below {w0 w w' : World} {b : Nat} {c : Cl} (h : Ca w0 b c w) (hb : Below w.heap.size w w') : Ca w0 b c w' := ⟨h.ok, h.cb.below hb, h.low, h.bel.trans (hb.mono h.bel.size)⟩
theorem Mx.onC {w w' : World} {P b : Nat} {m : Sm} {c : Cl} (h : Mx w P m) (hc : Cb w b c) (ho : On b w w') : Mx w' P m := h.on ho (blk_ne h hc (by decide))
theorem Mx.put {w : World} {P : Nat} {m : Sm} (h : Mx w P m) (n : Sm) : Mx (putM w P 0 n) P n := by
  unfold Mx smC at h ⊢

  have h1 := heap_set_self _ P 0 (.int .i64 n.k) _ _ _ h
  simp only [List.setIfInBounds_toArray, List.set_cons_zero] at h1
  have h2 := heap_set_self _ P 1 (.int .i64 n.se) _ _ _ h1
  simp only [List.setIfInBounds_toArray, List.set_cons_succ, List.set_cons_zero] at h2
  have h3 := heap_set_self _ P 2 (.int .i64 n.nu) _ _ _ h2
  simp only [List.setIfInBounds_toArray, List.set_cons_succ, List.set_cons_zero] at h3
  have h4 := heap_set_self _ P 3 (.int .i64 n.jo) _ _ _ h3
  simp only [List.setIfInBounds_toArray, List.set_cons_succ, List.set_cons_zero] at h4
  have h5 := heap_set_self _ P 4 (.int .i64 n.ba) _ _ _ h4
  simp only [List.setIfInBounds_toArray, List.set_cons_succ, List.set_cons_zero] at h5
  have h6 := heap_set_self _ P 5 (.int .i64 n.ix) _ _ _ h5
  simp only [List.setIfInBounds_toArray, List.set_cons_succ, List.set_cons_zero] at h6
  have h7 := heap_set_self _ P 6 (.int .i64 n.co) _ _ _ h6
  simp only [List.setIfInBounds_toArray, List.set_cons_succ, List.set_cons_zero] at h7
  have h8 := heap_set_self _ P 7 (.int .i64 n.rc) _ _ _ h7
  simp only [List.setIfInBounds_toArray, List.set_cons_succ, List.set_cons_zero] at h8
  have h9 := heap_set_self _ P 8 (.int .u64 (n.rb : Int)) _ _ _ h8
  simp only [List.setIfInBounds_toArray, List.set_cons_succ, List.set_cons_zero] at h9
  have h10 := heap_set_self _ P 9 (.string n.tx) _ _ _ h9
  simp only [List.setIfInBounds_toArray, List.set_cons_succ, List.set_cons_zero] at h10
  have h11 := heap_set_self _ P 10 (.string n.pr) _ _ _ h10
  simp only [List.setIfInBounds_toArray, List.set_cons_succ, List.set_cons_zero] at h11
  exact h11
theorem Cl.due_k (c : Cl) : c.due.c.m = c.m := by
  unfold Cl.due; split
  · rfl
  · split <;> rfl
theorem Cl.tick_k (c : Cl) : c.tick.m = c.m := by unfold Cl.tick; split <;> rfl

set_option maxHeartbeats 8000000 in
set_option maxRecDepth 8000 in
theorem sessionAnew_walk {w : World} {x : Int} (hx : -9223372036854775808 ≤ x ∧ x ≤ 9223372036854775807) {ad : Option Addr} {ab ao cap : Nat} {Q : List Oc} (hQ : Sr Oc.cs 13 w ad ab ao Q) (hQl : Q.length ≤ 1172812402926) (hQb : ∀ i (h : i < Q.length), I6 (Q[i]).on ∧ I6 (Q[i]).m.se ∧ I6 (Q[i]).m.nu) {turns : Int} (_hs : -9223372036854775808 ≤ turns ∧ turns ≤ 9223372036854775807) :
    Calls Try.prog 6 #[.int .i64 x, .slice ad Q.length cap, .int .i64 turns] w fun e w' => e = .returned (.bool true) ∧ Below w.heap.size w w' := by
  have HQ := hide hQ
  have HQB := hide hQb
  have HN := hide (cnew_any w hx)
  clear hQ _hs hQb hx
  go_enter Try.func6, Try.ntmps6
  go_wp2_with fail
  refine HN.out.mono ?_
  rintro e w1 (⟨h, rfl, hw⟩ | ⟨h, rfl, hC1, hB1⟩)
  · subst hw
    clear HN
    go_wp2_with fail
    refine (awake_any _).mono ?_
    rintro e w2 ⟨rfl, hB2⟩
    go_wp2_with fail
    go_ret
    exact ⟨rfl, hB2⟩
  obtain ⟨bc, hbc⟩ : ∃ bc, w.heap.size = bc := ⟨_, rfl⟩
  rw [show Value.pointer (some ⟨w.heap.size, 0, none⟩) = Value.pointer (some ⟨bc, 0, none⟩) by rw [hbc]]
  rw [hbc] at hC1
  have HC : Hid (Ca w bc (newC x) w1) := hide ⟨newC_ok h.1 h.2, hC1, by omega, hB1⟩
  clear HN hbc hC1 hB1
  go_wp2_with fail
  refine (awake_any _).mono ?_
  rintro e w2 ⟨rfl, hB2⟩
  have HC := hide (HC.out.below hB2)
  clear hB2
  obtain ⟨h1, h2⟩ := h
  have t1 : decide (x < 1) = false := decide_eq_false (by omega)
  have t2 : decide (16 < x) = false := decide_eq_false (by omega)
  generalize newC x = c0 at *
  go_wp2_with fail
  go_loopw [9] (fun s wr => ∃ (i : Nat) (c : Cl), i ≤ Q.length ∧ s = .int .i64 (i : Int) ∧ Hid (Ca w bc c wr)) (fun s _ => Q.length - (intOf s).toNat)
  case atStart => exact ⟨0, c0, Nat.zero_le _, rfl, HC⟩
  case round =>
    clear HC
    obtain ⟨i, c, hi, rfl, HC⟩ := hrel
    by_cases hiq : i < Q.length
    · have hii : (i : Int) < (Q.length : Int) := by omega
      have hat := HQ.out.at_ (by omega)
      subst hat
      have hR := HQ.out.below (by decide) Oc.cs0 HC.out.bel
      obtain ⟨q0, q1, q2, q3, q4, q5, q6, q7, q8, q9, q10, q11, q12⟩ := hR.thirteen hiq
      have hlt := hR.lt (by omega) (by decide) Oc.cs0
      have HBO := hide (HQB.out i hiq)
      clear hR
      generalize Q[i] = q at *

      by_cases hk1 : q.k = 1
      · skip
        have e1 : (q.k == 1) = true := by simpa using hk1
        clear hk1
        go_wp2_with fail
        refine (hello_any HC.out.cb).mono ?_
        rintro e w5 ⟨rfl, hc, ho⟩
        have HC := hide (HC.out.on hc (Cl.hello_ok HC.out.ok) ho)
        clear hc ho q0 q1 q2 q3 q4 q5 q6 q7 q8 q9 q10 q11 q12 hlt
        generalize c.hello = r at *
        go_wp2_with fail
        go_roundw
        case rel => exact ⟨i + 1, r.c, by omega, by go_num, HC⟩
        case measure => simp only [intOf]; omega
      by_cases hk2 : q.k = 2
      · skip
        have e1 : (q.k == 1) = false := by simpa using hk1
        have e2 : (q.k == 2) = true := by simpa using hk2
        clear hk1 hk2
        go_wp2_with fail
        refine (ask_any HC.out.ok HC.out.cb q.m).mono ?_
        rintro e w5 ⟨rfl, hc, ho⟩
        have HC := hide (HC.out.on hc (Cl.ask_ok HC.out.ok q.m) ho)
        clear hc ho q0 q1 q2 q3 q4 q5 q6 q7 q8 q9 q10 q11 q12 hlt
        generalize c.ask q.m = r at *
        go_wp2_with fail
        go_roundw
        case rel => exact ⟨i + 1, r.c, by omega, by go_num, HC⟩
        case measure => simp only [intOf]; omega
      by_cases hk3 : q.k = 3
      · skip
        have e1 : (q.k == 1) = false := by simpa using hk1
        have e2 : (q.k == 2) = false := by simpa using hk2
        have e3 : (q.k == 3) = true := by simpa using hk3
        clear hk1 hk2 hk3
        go_wp2_with fail
        refine (tick_any HC.out.ok HC.out.cb).mono ?_
        rintro e w5 ⟨rfl, hc, ho⟩
        have HC := hide (HC.out.on hc (Cl.tick_ok HC.out.ok) ho)
        clear hc ho q0 q1 q2 q3 q4 q5 q6 q7 q8 q9 q10 q11 q12 hlt
        generalize c.tick = r at *
        go_wp2_with fail
        go_roundw
        case rel => exact ⟨i + 1, r, by omega, by go_num, HC⟩
        case measure => simp only [intOf]; omega
      by_cases hk4 : q.k = 4
      · skip
        have e1 : (q.k == 1) = false := by simpa using hk1
        have e2 : (q.k == 2) = false := by simpa using hk2
        have e3 : (q.k == 3) = false := by simpa using hk3
        have e4 : (q.k == 4) = true := by simpa using hk4
        clear hk1 hk2 hk3 hk4
        go_wp2_with fail
        refine (due_any HC.out.cb).mono ?_
        rintro e w5 ⟨rfl, hc, ho⟩
        have HC := hide (HC.out.on hc (Cl.due_ok HC.out.ok) ho)
        clear hc ho q0 q1 q2 q3 q4 q5 q6 q7 q8 q9 q10 q11 q12 hlt
        generalize c.due = r at *
        obtain ⟨rm, ris, rc⟩ := r
        simp only [smC] at HC ⊢
        go_wp2_with fail
        go_roundw
        case rel => exact ⟨i + 1, rc, by omega, by go_num, HC⟩
        case measure => simp only [intOf]; omega
      by_cases hk5 : q.k = 5
      · skip
        have e1 : (q.k == 1) = false := by simpa using hk1
        have e2 : (q.k == 2) = false := by simpa using hk2
        have e3 : (q.k == 3) = false := by simpa using hk3
        have e4 : (q.k == 4) = false := by simpa using hk4
        have e5 : (q.k == 5) = true := by simpa using hk5
        clear hk1 hk2 hk3 hk4 hk5
        go_wp2_with fail
        refine (hear_any HC.out.ok HC.out.cb q.m).mono ?_
        rintro e w5 ⟨rfl, hc, ho⟩
        have HC := hide (HC.out.on hc (Cl.hear_ok HC.out.ok HBO.out.2.1.2) ho)
        clear hc ho q0 q1 q2 q3 q4 q5 q6 q7 q8 q9 q10 q11 q12 hlt
        generalize c.hear q.m = r at *
        go_wp2_with fail
        go_roundw
        case rel => exact ⟨i + 1, r.c, by omega, by go_num, HC⟩
        case measure => simp only [intOf]; omega
      have e1 : (q.k == 1) = false := by simpa using hk1
      have e2 : (q.k == 2) = false := by simpa using hk2
      have e3 : (q.k == 3) = false := by simpa using hk3
      have e4 : (q.k == 4) = false := by simpa using hk4
      have e5 : (q.k == 5) = false := by simpa using hk5
      clear hk1 hk2 hk3 hk4 hk5
      go_wp2_with fail
      go_roundw
      case rel => exact ⟨i + 1, c, by omega, by go_num, HC⟩
      case measure => simp only [intOf]; omega
    · have hii : ¬ (i : Int) < (Q.length : Int) := by omega
      clear hi hiq HQ HQB
      have HM0 := hide (rfl : c.m = c.m)
      cases hb : (c.m.k != 0) with
      | false =>
        have HK : Hid (c.m.k = 0) := hide (by simpa using hb)
        go_wp2_with fail
        refine (busy_any HC.out.cb).mono ?_
        rintro e w5 ⟨rfl, rfl⟩
        rw [hb]
        go_wp2_with fail
        refine (due_any HC.out.cb).mono ?_
        have hd : c.due = ⟨zS 0, false, c⟩ := if_pos HK.out
        rw [hd]
        rintro e w6 ⟨rfl, hc, ho⟩
        have HC := hide (HC.out.on hc HC.out.ok ho)
        clear hc ho hd hb
        simp only [smC, zS, e0] at HC ⊢
        rw [show ((0 : Nat) : Int) = 0 from rfl]
        go_wp2_with fail
        have HC := hide (HC.out.below (below_alloc w6 (.cells #[.int .i64 0, .int .i64 0, .int .i64 0, .int .i64 0, .int .i64 0, .int .i64 0, .int .i64 0, .int .i64 0, .int .u64 0, .string ⟨#[]⟩, .string ⟨#[]⟩] 36)))
        generalize w6.alloc (.cells #[.int .i64 0, .int .i64 0, .int .i64 0, .int .i64 0, .int .i64 0, .int .i64 0, .int .i64 0, .int .i64 0, .int .u64 0, .string ⟨#[]⟩, .string ⟨#[]⟩] 36) = W6 at *
        go_loopw [12, 13] (fun t s wr => ∃ (i : Nat) (c : Cl), i ≤ 80 ∧ t = .bool false ∧ s = .int .i64 (i : Int) ∧ Hid (Ca w bc c wr) ∧ Hid (c.m.k = 0)) (fun _ s _ => 80 - (intOf s).toNat)
        case atStart => exact ⟨0, c, Nat.zero_le _, rfl, rfl, HC, HK⟩
        case round =>
          clear HC HK HM0
          obtain ⟨j, c, hj, rfl, rfl, HC, HK⟩ := hrel
          by_cases ht : (j : Int) < turns
          · by_cases hm : (j : Int) < 5 * x
            · go_wp2_with fail
              refine (timer_any HC.out.cb).mono ?_
              rintro e w7 ⟨rfl, rfl⟩
              go_wp2_with fail
              refine (tick_any HC.out.ok HC.out.cb).mono ?_
              rintro e w8 ⟨rfl, hc, ho⟩
              have HC := hide (HC.out.on hc (Cl.tick_ok HC.out.ok) ho)
              have HK : Hid (c.tick.m.k = 0) := hide (by rw [Cl.tick_k]; exact HK.out)
              clear hc ho
              generalize c.ti = tt at *
              generalize c.tick = c at *
              go_wp2_with fail
              refine (due_any HC.out.cb).mono ?_
              have hd : c.due = ⟨zS 0, false, c⟩ := if_pos HK.out
              rw [hd]
              rintro e w9 ⟨rfl, hc, ho⟩
              have HC := hide ((HC.out.on hc HC.out.ok ho).below (below_alloc w9 (.cells #[.int .i64 0, .int .i64 0, .int .i64 0, .int .i64 0, .int .i64 0, .int .i64 0, .int .i64 0, .int .i64 0, .int .u64 0, .string ⟨#[]⟩, .string ⟨#[]⟩] 36)))
              have hb : (c.m.k != 0) = false := by rw [HK.out]; rfl
              have HBu := hide (busy_any HC.out.cb)
              rw [hb] at HBu
              clear hc ho hd hb
              simp only [smC, zS, e0] at HC HBu ⊢
              go_wp2_with fail
              refine HBu.out.mono ?_
              rintro e wA ⟨rfl, rfl⟩
              go_wp2_with fail
              go_roundw
              case rel => exact ⟨j + 1, c, by omega, rfl, by go_num, HC, HK⟩
              case measure => simp only [intOf]; omega
            · have tf : decide ((j : Int) < 5 * x) = false := decide_eq_false hm
              go_wp2_with fail
              go_ret
              exact ⟨rfl, HC.out.bel⟩
          · have tf : decide ((j : Int) < turns) = false := decide_eq_false ht
            go_wp2_with fail
            go_ret
            exact ⟨rfl, HC.out.bel⟩
      | true =>
        have HK0 : Hid (c.m.k ≠ 0) := hide (by simpa using hb)
        obtain ⟨M, hM⟩ : ∃ M, c.m = M := ⟨_, rfl⟩
        have HM := hide hM
        have HK : Hid (M.k ≠ 0) := hide (by rw [← hM]; exact HK0.out)
        go_wp2_with fail
        refine (busy_any HC.out.cb).mono ?_
        rintro e w5 ⟨rfl, rfl⟩
        rw [hb]
        clear hb hM HK0 HM0
        have HNq : Hid (∀ w, (binOp .neq 36 (.agg #[.int .i64 M.k, .int .i64 M.se, .int .i64 M.nu, .int .i64 M.jo, .int .i64 M.ba, .int .i64 M.ix, .int .i64 M.co, .int .i64 M.rc, .int .u64 (M.rb : Int), .string M.tx, .string M.pr]) (.agg #[.int .i64 M.k, .int .i64 M.se, .int .i64 M.nu, .int .i64 M.jo, .int .i64 M.ba, .int .i64 M.ix, .int .i64 M.co, .int .i64 M.rc, .int .u64 (M.rb : Int), .string M.tx, .string M.pr])).run Try.prog w = .ok (.bool false) w) := hide fun w => by
          have := neq_sm M M w
          rw [decide_eq_true rfl] at this
          exact this
        go_wp2_with fail
        refine (due_any HC.out.cb).mono ?_
        rintro e w6 ⟨rfl, hc, ho⟩
        have HM : Hid (c.due.c.m = M) := hide (by rw [Cl.due_k]; exact HM.out)
        have HF : Hid (c.due.is = true → c.due.m = M) := hide (by
          intro h
          unfold Cl.due at h ⊢
          split at h
          · cases h
          · split at h
            · cases h
            · rw [if_neg (by assumption), if_neg (by assumption)]; rw [Cl.due_k] at HM; exact HM.out)
        have HC := hide (HC.out.on hc (Cl.due_ok HC.out.ok) ho)
        clear hc ho
        generalize c.due = r at *
        obtain ⟨f0, was0, c⟩ := r
        simp only at HM HF HC ⊢
        have HX := hide (Mx.new w6 f0)
        have HXL : Hid (w.heap.size ≤ w6.heap.size) := hide HC.out.bel.size
        have HC := hide (HC.out.below (below_alloc w6 (.cells (smC f0) 36)))
        unfold smC at HX HC ⊢
        go_wp2_with fail
        obtain ⟨X, hX⟩ : ∃ X, w6.heap.size = X := ⟨_, rfl⟩
        rw [hX] at HX HXL
        try rw [hX]
        clear hX
        generalize w6.alloc (.cells #[.int .i64 f0.k, .int .i64 f0.se, .int .i64 f0.nu, .int .i64 f0.jo, .int .i64 f0.ba, .int .i64 f0.ix, .int .i64 f0.co, .int .i64 f0.rc, .int .u64 (f0.rb : Int), .string f0.tx, .string f0.pr] 36) = W6 at *
        have hNq := HNq.out
        go_loopw [12, 13] (fun t s wr => ∃ (i : Nat) (c : Cl) (was : Bool) (f : Sm), i ≤ 80 ∧ t = .bool was ∧ s = .int .i64 (i : Int) ∧ Hid (Ca w bc c wr) ∧ Hid (c.m = M) ∧ Hid (Mx wr X f) ∧ Hid (was = true → f = M)) (fun _ s _ => 80 - (intOf s).toNat)
        case atStart => exact ⟨0, c, was0, f0, Nat.zero_le _, rfl, rfl, HC, HM, HX, HF⟩
        case round =>
          clear HC HM HX HF
          obtain ⟨j, c, was, f, hj, rfl, rfl, HC, HM, HX, HF⟩ := hrel
          by_cases ht : (j : Int) < turns
          · by_cases hm : (j : Int) < 5 * x
            · cases was with
              | true =>
                by_cases hti : c.ti ≤ 1
                · skip
                  have HTI : Hid (c.ti ≤ 1) := hide (by omega)
                  clear hti
                  go_wp2_with fail
                  refine (timer_any HC.out.cb).mono ?_
                  rintro e w7 ⟨rfl, rfl⟩
                  have tl : decide (c.ti ≤ 1) = true := by simpa using HTI.out
                  go_wp2_with fail
                  refine (tick_any HC.out.ok HC.out.cb).mono ?_
                  rintro e w8 ⟨rfl, hc, ho⟩
                  have HX := hide (HX.out.onC HC.out.cb ho)
                  have HT0 := hide HC.out.ok.t0
                  have HC := hide (HC.out.on hc (Cl.tick_ok HC.out.ok) ho)
                  have HTK : Hid (¬ 0 < c.tick.ti) := hide (by
                    have h1 := HTI.out
                    have h2 := HT0.out
                    unfold Cl.tick
                    split
                    · show ¬ 0 < c.ti - 1; omega
                    · assumption)
                  have HM : Hid (c.tick.m = M) := hide (by rw [Cl.tick_k]; exact HM.out)
                  clear hc ho HTI HT0
                  generalize c.ti = tt at *
                  generalize c.tick = c at *
                  go_wp2_with fail
                  refine (due_any HC.out.cb).mono ?_
                  have hd : c.due = ⟨M, true, { c with ti := c.rs }⟩ := by
                    unfold Cl.due
                    rw [if_neg (by rw [HM.out]; exact HK.out), if_neg (by have := HTK.out; omega), HM.out]
                  have HDK := hide (Cl.due_ok HC.out.ok)
                  rw [hd] at HDK ⊢
                  rintro e w9 ⟨rfl, hc, ho⟩
                  have HX := hide ((HX.out.onC HC.out.cb ho).below (below_alloc w9 (.cells #[.int .i64 M.k, .int .i64 M.se, .int .i64 M.nu, .int .i64 M.jo, .int .i64 M.ba, .int .i64 M.ix, .int .i64 M.co, .int .i64 M.rc, .int .u64 (M.rb : Int), .string M.tx, .string M.pr] 36)))
                  have HC := hide ((HC.out.on hc HDK.out ho).below (below_alloc w9 (.cells #[.int .i64 M.k, .int .i64 M.se, .int .i64 M.nu, .int .i64 M.jo, .int .i64 M.ba, .int .i64 M.ix, .int .i64 M.co, .int .i64 M.rc, .int .u64 (M.rb : Int), .string M.tx, .string M.pr] 36)))
                  have HM : Hid (({ c with ti := c.rs } : Cl).m = M) := hide HM.out
                  have HY : Hid (Mx (w9.alloc (.cells #[.int .i64 M.k, .int .i64 M.se, .int .i64 M.nu, .int .i64 M.jo, .int .i64 M.ba, .int .i64 M.ix, .int .i64 M.co, .int .i64 M.rc, .int .u64 (M.rb : Int), .string M.tx, .string M.pr] 36)) w9.heap.size M) := hide (Mx.new w9 M)
                  generalize ({ c with ti := c.rs } : Cl) = c at *
                  have hb : (c.m.k != 0) = true := by rw [HM.out]; simpa using HK.out
                  have HBu := hide (busy_any HC.out.cb)
                  rw [hb] at HBu
                  clear hc ho hd hb HDK HTK
                  simp only [smC] at HC HBu ⊢
                  go_wp2_with fail
                  obtain ⟨Y, hY⟩ : ∃ Y, w9.heap.size = Y := ⟨_, rfl⟩
                  rw [hY] at HY
                  try rw [hY]
                  clear hY
                  generalize w9.alloc (.cells #[.int .i64 M.k, .int .i64 M.se, .int .i64 M.nu, .int .i64 M.jo, .int .i64 M.ba, .int .i64 M.ix, .int .i64 M.co, .int .i64 M.rc, .int .u64 (M.rb : Int), .string M.tx, .string M.pr] 36) = W9 at *
                  refine HBu.out.mono ?_
                  rintro e wA ⟨rfl, rfl⟩
                  clear HBu
                  have hf := HF.out (by simp)
                  subst hf
                  obtain ⟨k0, k1, k2, k3, k4, k5, k6, k7, k8, k9, k10⟩ := HX.out.cells
                  obtain ⟨y0, y1, y2, y3, y4, y5, y6, y7, y8, y9, y10⟩ := HY.out.cells
                  go_wp2_with fail
                  go_roundw
                  case rel => exact ⟨j + 1, c, true, _, by omega, rfl, by go_num, HC, HM, HX, hide fun _ => rfl⟩
                  case measure => simp only [intOf]; omega
                · skip
                  have HTI : Hid (1 < c.ti) := hide (by omega)
                  clear hti
                  go_wp2_with fail
                  refine (timer_any HC.out.cb).mono ?_
                  rintro e w7 ⟨rfl, rfl⟩
                  have tl : decide (c.ti ≤ 1) = false := by simpa using HTI.out
                  go_wp2_with fail
                  refine (tick_any HC.out.ok HC.out.cb).mono ?_
                  rintro e w8 ⟨rfl, hc, ho⟩
                  have HX := hide (HX.out.onC HC.out.cb ho)
                  have HT0 := hide HC.out.ok.t0
                  have HC := hide (HC.out.on hc (Cl.tick_ok HC.out.ok) ho)
                  have HTK : Hid (0 < c.tick.ti) := hide (by
                    have h1 := HTI.out
                    have h2 := HT0.out
                    unfold Cl.tick
                    split
                    · show 0 < c.ti - 1; omega
                    · omega)
                  have HM : Hid (c.tick.m = M) := hide (by rw [Cl.tick_k]; exact HM.out)
                  clear hc ho HTI HT0
                  generalize c.ti = tt at *
                  generalize c.tick = c at *
                  go_wp2_with fail
                  refine (due_any HC.out.cb).mono ?_
                  have hd : c.due = ⟨zS 0, false, c⟩ := by
                    unfold Cl.due
                    rw [if_neg (by rw [HM.out]; exact HK.out), if_pos (by have := HTK.out; omega)]
                  have HDK := hide (Cl.due_ok HC.out.ok)
                  rw [hd] at HDK ⊢
                  rintro e w9 ⟨rfl, hc, ho⟩
                  have HX := hide ((HX.out.onC HC.out.cb ho).below (below_alloc w9 (.cells #[.int .i64 0, .int .i64 0, .int .i64 0, .int .i64 0, .int .i64 0, .int .i64 0, .int .i64 0, .int .i64 0, .int .u64 0, .string ⟨#[]⟩, .string ⟨#[]⟩] 36)))
                  have HC := hide ((HC.out.on hc HDK.out ho).below (below_alloc w9 (.cells #[.int .i64 0, .int .i64 0, .int .i64 0, .int .i64 0, .int .i64 0, .int .i64 0, .int .i64 0, .int .i64 0, .int .u64 0, .string ⟨#[]⟩, .string ⟨#[]⟩] 36)))
                  have hb : (c.m.k != 0) = true := by rw [HM.out]; simpa using HK.out
                  have HBu := hide (busy_any HC.out.cb)
                  rw [hb] at HBu
                  clear hc ho hd hb HDK HTK
                  simp only [smC, zS, e0] at HC HBu ⊢
                  go_wp2_with fail
                  generalize w9.alloc (.cells #[.int .i64 0, .int .i64 0, .int .i64 0, .int .i64 0, .int .i64 0, .int .i64 0, .int .i64 0, .int .i64 0, .int .u64 0, .string ⟨#[]⟩, .string ⟨#[]⟩] 36) = W9 at *
                  refine HBu.out.mono ?_
                  rintro e wA ⟨rfl, rfl⟩
                  clear HBu
                  go_wp2_with fail
                  go_roundw
                  case rel => exact ⟨j + 1, c, true, f, by omega, rfl, by go_num, HC, HM, HX, hide fun _ => HF.out (by simp)⟩
                  case measure => simp only [intOf]; omega
              | false =>
                by_cases hti : c.ti ≤ 1
                · skip
                  have HTI : Hid (c.ti ≤ 1) := hide (by omega)
                  clear hti
                  go_wp2_with fail
                  refine (timer_any HC.out.cb).mono ?_
                  rintro e w7 ⟨rfl, rfl⟩
                  have tl : decide (c.ti ≤ 1) = true := by simpa using HTI.out
                  go_wp2_with fail
                  refine (tick_any HC.out.ok HC.out.cb).mono ?_
                  rintro e w8 ⟨rfl, hc, ho⟩
                  have HX := hide (HX.out.onC HC.out.cb ho)
                  have HT0 := hide HC.out.ok.t0
                  have HC := hide (HC.out.on hc (Cl.tick_ok HC.out.ok) ho)
                  have HTK : Hid (¬ 0 < c.tick.ti) := hide (by
                    have h1 := HTI.out
                    have h2 := HT0.out
                    unfold Cl.tick
                    split
                    · show ¬ 0 < c.ti - 1; omega
                    · assumption)
                  have HM : Hid (c.tick.m = M) := hide (by rw [Cl.tick_k]; exact HM.out)
                  clear hc ho HTI HT0
                  generalize c.ti = tt at *
                  generalize c.tick = c at *
                  go_wp2_with fail
                  refine (due_any HC.out.cb).mono ?_
                  have hd : c.due = ⟨M, true, { c with ti := c.rs }⟩ := by
                    unfold Cl.due
                    rw [if_neg (by rw [HM.out]; exact HK.out), if_neg (by have := HTK.out; omega), HM.out]
                  have HDK := hide (Cl.due_ok HC.out.ok)
                  rw [hd] at HDK ⊢
                  rintro e w9 ⟨rfl, hc, ho⟩
                  have HX := hide ((HX.out.onC HC.out.cb ho).below (below_alloc w9 (.cells #[.int .i64 M.k, .int .i64 M.se, .int .i64 M.nu, .int .i64 M.jo, .int .i64 M.ba, .int .i64 M.ix, .int .i64 M.co, .int .i64 M.rc, .int .u64 (M.rb : Int), .string M.tx, .string M.pr] 36)))
                  have HC := hide ((HC.out.on hc HDK.out ho).below (below_alloc w9 (.cells #[.int .i64 M.k, .int .i64 M.se, .int .i64 M.nu, .int .i64 M.jo, .int .i64 M.ba, .int .i64 M.ix, .int .i64 M.co, .int .i64 M.rc, .int .u64 (M.rb : Int), .string M.tx, .string M.pr] 36)))
                  have HM : Hid (({ c with ti := c.rs } : Cl).m = M) := hide HM.out
                  have HY : Hid (Mx (w9.alloc (.cells #[.int .i64 M.k, .int .i64 M.se, .int .i64 M.nu, .int .i64 M.jo, .int .i64 M.ba, .int .i64 M.ix, .int .i64 M.co, .int .i64 M.rc, .int .u64 (M.rb : Int), .string M.tx, .string M.pr] 36)) w9.heap.size M) := hide (Mx.new w9 M)
                  generalize ({ c with ti := c.rs } : Cl) = c at *
                  have hb : (c.m.k != 0) = true := by rw [HM.out]; simpa using HK.out
                  have HBu := hide (busy_any HC.out.cb)
                  rw [hb] at HBu
                  clear hc ho hd hb HDK HTK
                  simp only [smC] at HC HBu ⊢
                  go_wp2_with fail
                  obtain ⟨Y, hY⟩ : ∃ Y, w9.heap.size = Y := ⟨_, rfl⟩
                  rw [hY] at HY
                  try rw [hY]
                  clear hY
                  generalize w9.alloc (.cells #[.int .i64 M.k, .int .i64 M.se, .int .i64 M.nu, .int .i64 M.jo, .int .i64 M.ba, .int .i64 M.ix, .int .i64 M.co, .int .i64 M.rc, .int .u64 (M.rb : Int), .string M.tx, .string M.pr] 36) = W9 at *
                  refine HBu.out.mono ?_
                  rintro e wA ⟨rfl, rfl⟩
                  clear HBu
                  obtain ⟨k0, k1, k2, k3, k4, k5, k6, k7, k8, k9, k10⟩ := HX.out.cells
                  have kz := HX.out.z
                  obtain ⟨y0, y1, y2, y3, y4, y5, y6, y7, y8, y9, y10⟩ := HY.out.cells
                  have HC : Hid (Ca w bc c (putM wA X 0 M)) := hide ⟨HC.out.ok, (((On.refl X wA).putM 0 M).block _ HC.out.cb.lt (blk_ne HC.out.cb HX.out (by decide))).trans HC.out.cb, HC.out.low, HC.out.bel.trans (((On.refl X wA).putM 0 M).below HXL.out HC.out.bel.size)⟩
                  have HX := hide (HX.out.put M)
                  go_wp2_with fail
                  go_roundw
                  case rel => exact ⟨j + 1, c, true, M, by omega, rfl, by go_num, HC, HM, HX, hide fun _ => rfl⟩
                  case measure => simp only [intOf]; omega
                · skip
                  have HTI : Hid (1 < c.ti) := hide (by omega)
                  clear hti
                  go_wp2_with fail
                  refine (timer_any HC.out.cb).mono ?_
                  rintro e w7 ⟨rfl, rfl⟩
                  have tl : decide (c.ti ≤ 1) = false := by simpa using HTI.out
                  go_wp2_with fail
                  refine (tick_any HC.out.ok HC.out.cb).mono ?_
                  rintro e w8 ⟨rfl, hc, ho⟩
                  have HX := hide (HX.out.onC HC.out.cb ho)
                  have HT0 := hide HC.out.ok.t0
                  have HC := hide (HC.out.on hc (Cl.tick_ok HC.out.ok) ho)
                  have HTK : Hid (0 < c.tick.ti) := hide (by
                    have h1 := HTI.out
                    have h2 := HT0.out
                    unfold Cl.tick
                    split
                    · show 0 < c.ti - 1; omega
                    · omega)
                  have HM : Hid (c.tick.m = M) := hide (by rw [Cl.tick_k]; exact HM.out)
                  clear hc ho HTI HT0
                  generalize c.ti = tt at *
                  generalize c.tick = c at *
                  go_wp2_with fail
                  refine (due_any HC.out.cb).mono ?_
                  have hd : c.due = ⟨zS 0, false, c⟩ := by
                    unfold Cl.due
                    rw [if_neg (by rw [HM.out]; exact HK.out), if_pos (by have := HTK.out; omega)]
                  have HDK := hide (Cl.due_ok HC.out.ok)
                  rw [hd] at HDK ⊢
                  rintro e w9 ⟨rfl, hc, ho⟩
                  have HX := hide ((HX.out.onC HC.out.cb ho).below (below_alloc w9 (.cells #[.int .i64 0, .int .i64 0, .int .i64 0, .int .i64 0, .int .i64 0, .int .i64 0, .int .i64 0, .int .i64 0, .int .u64 0, .string ⟨#[]⟩, .string ⟨#[]⟩] 36)))
                  have HC := hide ((HC.out.on hc HDK.out ho).below (below_alloc w9 (.cells #[.int .i64 0, .int .i64 0, .int .i64 0, .int .i64 0, .int .i64 0, .int .i64 0, .int .i64 0, .int .i64 0, .int .u64 0, .string ⟨#[]⟩, .string ⟨#[]⟩] 36)))
                  have hb : (c.m.k != 0) = true := by rw [HM.out]; simpa using HK.out
                  have HBu := hide (busy_any HC.out.cb)
                  rw [hb] at HBu
                  clear hc ho hd hb HDK HTK
                  simp only [smC, zS, e0] at HC HBu ⊢
                  go_wp2_with fail
                  generalize w9.alloc (.cells #[.int .i64 0, .int .i64 0, .int .i64 0, .int .i64 0, .int .i64 0, .int .i64 0, .int .i64 0, .int .i64 0, .int .u64 0, .string ⟨#[]⟩, .string ⟨#[]⟩] 36) = W9 at *
                  refine HBu.out.mono ?_
                  rintro e wA ⟨rfl, rfl⟩
                  clear HBu
                  go_wp2_with fail
                  go_roundw
                  case rel => exact ⟨j + 1, c, false, f, by omega, rfl, by go_num, HC, HM, HX, hide fun h => by cases h⟩
                  case measure => simp only [intOf]; omega
            · have tf : decide ((j : Int) < 5 * x) = false := decide_eq_false hm
              go_wp2_with fail
              go_ret
              exact ⟨rfl, HC.out.bel⟩
          · have tf : decide ((j : Int) < turns) = false := decide_eq_false ht
            go_wp2_with fail
            go_ret
            exact ⟨rfl, HC.out.bel⟩
end Go.Proofs.Ytaikogbeaohmhaa
