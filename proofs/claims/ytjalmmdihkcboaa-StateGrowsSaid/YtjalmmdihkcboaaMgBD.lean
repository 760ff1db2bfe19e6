import Derived.Test.YtjalmmdihkcboaaMgBA
import Derived.Test.YtjalmmdihkcboaaMgBC

section
namespace Go.Proofs.Ytjalmmdihkcboaa.S
open Go.RowKit
open Rc (Ch)
open Q (Rr rr0 Qm Ft Mv)

theorem own_cap {w : World} {n0 n sz : Nat} {e : TypeId} {v : Value} {xs : List Value} (h : w.ownsRow n0 e sz v n xs) : ∀ p m c, v = .slice p m c → m ≤ c := by
  rcases h.2 with ⟨rfl, _⟩ | ⟨g, cap, cur, rfl, _, _, hc, _⟩
  · intro p m c e; simp only [Value.slice.injEq] at e; omega
  · intro p m c e; simp only [Value.slice.injEq] at e; omega
/-- a view's box is turned: the row of jobs stays -/
theorem Jr.box {A : Nat} {w : World} {vj : Value} {J : List Jb} (h : Jr A w vj J) {X : Nat} {cs : Array Value} (hX : w.heap[X]? = some (.cells cs 30 (0, 0))) (k : Nat) (u : Value) : Jr A (w.setCell ⟨X, k, none⟩ u) vj J := by
  have hne : ∀ g, g ≠ X → (w.setCell ⟨X, k, none⟩ u).heap[g]? = w.heap[g]? := fun g hg => Below.heap_setCell _ ⟨X, k, none⟩ _ g hg
  exact ⟨own_keep h.row fun g hg => hne g fun e => own_ty h.row hX (by decide) (e ▸ hg), fun j hj => own_keep (h.lg j hj) fun g hg => hne g fun e => own_ty (h.lg j hj) hX (by decide) (e ▸ hg)⟩
/-- a state is turned: so it stays, too -/
theorem Jr.mv {A : Nat} {w w' : World} {vj : Value} {J : List Jb} (h : Jr A w vj J) {b : Nat} {cs : Array Value} (hX : w.heap[b]? = some (.cells cs 64 (0, 0))) (hM : Mv (fun g => g = b) (fun g => g = b) w w') : Jr A w' vj J :=
  ⟨own_keep h.row fun g hg => hM.block g (h.row.lt g hg).2 fun e => own_ty h.row hX (by decide) (e ▸ hg), fun j hj => own_keep (h.lg j hj) fun g hg => hM.block g ((h.lg j hj).lt g hg).2 fun e => own_ty (h.lg j hj) hX (by decide) (e ▸ hg)⟩
theorem Sd.cells {N : Nat → Prop} {w : World} {b : Nat} {m : Int} {s : Sx} (h : Sd N w b m s) : ∃ cs, w.heap[b]? = some (.cells cs 64 (0, 0)) := by
  obtain ⟨_, _, _, _, h1, _⟩ := h.ex
  exact ⟨_, h1⟩
theorem nxt1_grows {m : Int} {s : Sx} {q : List Ch} (h : Wf m s) (hq : q.length = 1) : s.res ≤ (nxt1 m s q).res ∧ s.L.length ≤ (nxt1 m s q).L.length ∧ ∀ i, i < s.L.length → Gr (s.L.getD i rr0) (s.pa i) ((nxt1 m s q).L.getD i rr0) ((nxt1 m s q).pa i) := by
  obtain ⟨c, rfl⟩ : ∃ c, q = [c] := List.length_eq_one_iff.1 hq
  unfold nxt1
  cases h1 : one m s c with
  | none =>
    have : app m s [c] = none := by simp [app, h1]
    rw [this]
    exact ⟨Int.le_refl _, Nat.le_refl _, fun i _ => Gr.refl _ _⟩
  | some t =>
    have : app m s [c] = some t := by simp [app, h1]
    rw [this]
    exact one_grows h h1
set_option maxHeartbeats 4000000 in
set_option maxRecDepth 20000 in
theorem stateGrows_walk (x : Int) (_ : -9223372036854775808 ≤ x) (_ : x ≤ 9223372036854775807) {w : World} {va : Value} {l : List Ch} (hR : Rw w va l) (hl : l.length ≤ 1353245080301) (hC : ∀ p n c, va = .slice p n c → n ≤ c ∧ c ≤ maxLen) :
    Calls Try.prog 3 #[.int .i64 x, va] w fun e w' => e = .returned (.bool true) ∧ Below w.heap.size w w' := by
  have hRw := hR
  obtain ⟨pv, cap, rfl, hx0⟩ := hR
  obtain ⟨hcap, hcm⟩ := hC _ _ _ rfl
  have HRB : Hid (∀ c ∈ l, c.rb < 18446744073709551616) := hide fun c hc => by
    obtain ⟨j, hj, e⟩ := List.getElem_of_mem hc
    obtain ⟨_, _, _, _, hcc⟩ := hx0 (by omega)
    obtain ⟨_, _, _, h3, _⟩ := hcc j hj
    rw [getElem!_pos l j hj, e] at h3
    exact h3
  have HX0 := hide hx0
  have HR0 := hide hRw
  clear hx0 hRw hC
  have HNa := hide (new_any w x)
  go_enter Try.func3, Try.ntmps3
  go_wp2_with fail
  refine HNa.out.mono ?_
  rintro e w1 (⟨hno, rfl, hb1⟩ | ⟨bA, hyes, hok, rfl, hblA, hsdA, hb1⟩)
  · have HB1 := hide hb1
    clear hb1 HNa
    by_cases hx1 : x < 1
    · have d1 : decide (x < 1) = true := decide_eq_true hx1
      go_wp2_with fail
      refine (sfixed_any _).mono ?_
      rintro e w3 ⟨rfl, hb3⟩
      have HB3 := hide (HB1.out.trans (hb3.mono HB1.out.size))
      clear hb3 HB1
      go_wp2_with fail
      go_ret
      exact ⟨rfl, HB3.out⟩
    · have hx8 : 8 < x := by omega
      have d1 : decide (x < 1) = false := decide_eq_false hx1
      have d2 : decide (8 < x) = true := decide_eq_true hx8
      go_wp2_with fail
      refine (sfixed_any _).mono ?_
      rintro e w3 ⟨rfl, hb3⟩
      have HB3 := hide (HB1.out.trans (hb3.mono HB1.out.size))
      clear hb3 HB1
      go_wp2_with fail
      go_ret
      exact ⟨rfl, HB3.out⟩
  have hSA1 := hsdA (fun g => g = bA) (fun g hg => .inr hg)
  have HW0 := hide (wf0 hok)
  have HSA1 := hide hSA1
  have HB1 := hide hb1
  have HVw := hide (view_any hSA1 HW0.out)
  clear hb1 HNa hSA1 hsdA
  go_wp2_with fail
  refine HVw.out.mono ?_
  rintro e w2 ⟨vj0, J0, rfl, hJ0, hJn0, hJv0, hb2⟩
  obtain ⟨pj0, cj0, hvj⟩ := own_slice hJ0.row
  subst hvj
  obtain ⟨P, hP⟩ : ∃ P, w2.heap.size = P := ⟨_, rfl⟩
  have hbP := below_alloc w2 (.cells #[.int .i64 sx0.res, .slice pj0 J0.length cj0] 30)
  have hP2 := heap_alloc_new w2 (.cells #[.int .i64 sx0.res, .slice pj0 J0.length cj0] 30)
  rw [hP] at hP2
  obtain ⟨N, hN⟩ : ∃ N : Nat → Prop, N = fun g => g = bA ∨ g = P := ⟨_, rfl⟩
  have HNd : Hid (∀ g, N g → g = bA ∨ g = P) := hide fun g hg => by rw [hN] at hg; exact hg
  have HNb : Hid (N bA) := hide (by rw [hN]; exact .inl rfl)
  have HNp : Hid (N P) := hide (by rw [hN]; exact .inr rfl)
  have HSA2 := hide (((HSA1.out.below hb2).more (N' := N) (fun g hg => by rcases HNd.out g hg with rfl | rfl; exact .inl rfl; exact .inr (Nat.le_of_eq hP))).below hbP)
  have HJ2 := hide (hJ0.below hbP)
  have hBx := HB1.out.trans (hb2.mono HB1.out.size)
  have hPw : w.heap.size ≤ P := by have := hBx.size; omega
  have HB2 := hide (hBx.alloc hBx.size (.cells #[.int .i64 sx0.res, .slice pj0 J0.length cj0] 30))
  have HP2 := hide hP2
  have HJn0 := hide hJn0
  have HJv0 := hide hJv0
  have hPA : ¬ P = bA := by have := HSA1.out.lt; have := hb2.size; omega
  have HPA := hide hPA
  clear hJ0 hJn0 hJv0 hb2 hbP hP2 HVw HSA1 HB1 hBx hPA hN
  go_upto_region 5 with fail
  generalize w2.alloc _ = wP at *
  obtain ⟨B0, hB0⟩ : ∃ B0, w1.heap.size = B0 := ⟨_, rfl⟩
  rw [hB0] at HJ2
  clear hB0
  go_wp2_with fail
  go_loopw [8] (fun u wr => ∃ (i : Nat) (sA : Sx) (vj : Value) (J : List Jb) (B : Nat), u = .int .i64 (i : Int) ∧ i ≤ l.length ∧ Hid (Wf x sA) ∧ Hid (Sd N wr bA x sA) ∧ Hid (wr.heap[P]? = some (.cells #[.int .i64 sA.res, vj] 30 (0, 0))) ∧ Hid (Jr B wr vj J) ∧ Hid (J.length = sA.L.length) ∧ Hid (Jv sA J sA.L.length) ∧ Hid (Below w.heap.size w wr)) (fun u _ => l.length - (intOf u).toNat)
  case atStart => exact ⟨0, sx0, _, J0, B0, rfl, Nat.zero_le _, HW0, HSA2, HP2, HJ2, HJn0, HJv0, HB2⟩
  case round =>
    clear HSA2 HB2 HW0 HP2 HJ2 HJn0 HJv0
    obtain ⟨i, sA, vj, J, B, rfl, hi, HWA, HSA, HPr, HJr, HJn, HJv, HB⟩ := hrel
    by_cases hil : i < l.length
    · obtain ⟨bb, off, hpv, hlt, hcc⟩ := HX0.out (by omega)
      subst hpv
      have hii : (i : Int) < (l.length : Int) := by omega
      have hic : (i : Int) + 1 ≤ (cap : Int) := by omega
      have hRs := rw_sub (HR0.out.below HB.out (Nat.le_refl _)) (i := i) (k := i + 1) (Nat.le_succ _) hil (cap - i)
      have e11 : i + 1 - i = 1 := by omega
      rw [e11] at hRs
      have HAy := hide (apply_any HSA.out (fun g hg => by rcases HNd.out g hg with rfl | rfl; exact HSA.out.lt; exact lt_of_block HPr.out) HNb.out HWA.out hRs (by rw [List.length_take, List.length_drop]; omega))
      have HRl : Hid (∀ c ∈ (l.drop i).take 1, c.rb < 18446744073709551616) := hide fun c hc => HRB.out c (List.mem_of_mem_drop (List.mem_of_mem_take hc))
      have HWB := hide (nxt1_wf HWA.out HRl.out)
      have HGr := hide (nxt1_grows HWA.out (q := (l.drop i).take 1) (by rw [List.length_take, List.length_drop]; omega))
      obtain ⟨cs0, hcs0⟩ := HSA.out.cells
      have Hcs0 := hide hcs0
      obtain ⟨pj, cj, hvj⟩ := own_slice HJr.out.row
      rw [HJn.out] at hvj
      subst hvj
      clear hRs hcc hcs0
      go_wp2_with fail
      refine HAy.out.mono ?_
      intro e w2 hAP
      obtain ⟨p0, q0, rfl, hSB, hM⟩ := hAP.nx HSA.out
      obtain ⟨sB, hsB⟩ : ∃ sB, nxt1 x sA ((l.drop i).take 1) = sB := ⟨_, rfl⟩
      rw [hsB] at hSB HWB HGr
      have HB2 := hide (HB.out.trans (hM.below (B := w.heap.size) HB.out.size (fun g hg => by rw [hg]; exact hblA)))
      have HJ2 := hide (HJr.out.mv Hcs0.out hM)
      have HP2 := hide ((hM.block P (lt_of_block HPr.out) HPA.out).trans HPr.out)
      have HVw := hide (view_any hSB HWB.out)
      have HSB := hide hSB
      clear hAP hSB hM HAy HSA HB HPr HJr HRl hsB Hcs0
      go_wp2_with fail
      refine HVw.out.mono ?_
      rintro e w3 ⟨vj', J', rfl, hJ, hJn', hJv', hb3⟩
      obtain ⟨pj', cj', hvj⟩ := own_slice hJ.row
      rw [hJn'] at hvj
      subst hvj
      obtain ⟨X, hX⟩ : ∃ X, w3.heap.size = X := ⟨_, rfl⟩
      have hbX := below_alloc w3 (.cells #[.int .i64 sB.res, .slice pj' sB.L.length cj'] 30)
      have hX8 := heap_alloc_new w3 (.cells #[.int .i64 sB.res, .slice pj' sB.L.length cj'] 30)
      rw [hX] at hX8
      have HS8 := hide ((HSB.out.below hb3).below hbX)
      have HJ8 := hide ((HJ2.out.below hb3).below hbX)
      have HK8 := hide (hJ.below hbX)
      have HP8 := hide ((hbX.block _ (Nat.lt_of_lt_of_le (lt_of_block HP2.out) hb3.size)).trans ((hb3.block _ (lt_of_block HP2.out)).trans HP2.out))
      have HB8 := hide ((HB2.out.trans (hb3.mono HB2.out.size)).alloc (HB2.out.trans (hb3.mono HB2.out.size)).size (.cells #[.int .i64 sB.res, .slice pj' sB.L.length cj'] 30))
      have HX8 := hide hX8
      have HJn' := hide hJn'
      have HJv' := hide hJv'
      have hl8 := HWA.out.ok.len
      have hl9 := HWB.out.ok.len
      have hPX : P < X := by have := lt_of_block HP2.out; have := hb3.size; omega
      clear hJ hJn' hJv' hb3 hbX hX8 HVw HSB HB2 HJ2 HP2
      go_upto_region 10 with fail
      generalize w3.alloc (.cells #[.int .i64 sB.res, .slice pj' sB.L.length cj'] 30) = wX at *
      obtain ⟨n, hn⟩ : ∃ n, sA.L.length = n := ⟨_, rfl⟩
      obtain ⟨n', hn'⟩ : ∃ n', sB.L.length = n' := ⟨_, rfl⟩
      have HNn := hide hn
      have HNn' := hide hn'
      have hg1 := HGr.out.1
      have hg2 := HGr.out.2.1
      rw [hn] at hl8 HP8 HJ8 hg2
      rw [hn'] at hl9 HX8 HK8 hg2 ⊢
      clear hn hn'
      have y0 : wX.cell? ⟨P, 0, none⟩ = some (.int .i64 sA.res) := by simp [World.cell?, HP8.out]
      have y1 : wX.cell? ⟨P, 1, none⟩ = some (.slice pj n cj) := by simp [World.cell?, HP8.out]
      have x0 : wX.cell? ⟨X, 0, none⟩ = some (.int .i64 sB.res) := by simp [World.cell?, HX8.out]
      have x1 : wX.cell? ⟨X, 1, none⟩ = some (.slice pj' n' cj') := by simp [World.cell?, HX8.out]
      have t1 : ¬ (sB.res < sA.res) := by omega
      have t2 : ¬ ((n' : Int) < (n : Int)) := by omega
      go_wp2_with fail
      go_loopw [10] (fun u wv => ∃ k : Nat, u = .int .i64 (k : Int) ∧ k ≤ n ∧ Hid (Below wX.heap.size wX wv)) (fun u _ => n - (intOf u).toNat)
      case atStart => exact ⟨0, rfl, Nat.zero_le _, hide (Below.refl _ _)⟩
      case round =>
        clear y0 y1 x0 x1
        obtain ⟨k, rfl, hk, HBv⟩ := hrel
        have HPv := hide ((HBv.out.block P (lt_of_block HP8.out)).trans HP8.out)
        have HXv := hide ((HBv.out.block X (lt_of_block HX8.out)).trans HX8.out)
        have y1 : wr.cell? ⟨P, 1, none⟩ = some (.slice pj n cj) := by simp [World.cell?, HPv.out]
        by_cases hkn : k < n
        · have hkL : k < sA.L.length := by rw [HNn.out]; exact hkn
          have hkM : k < sB.L.length := by rw [HNn'.out]; omega
          have hkJ : k < J.length := by rw [HJn.out]; exact hkL
          have hkJ' : k < J'.length := by rw [HJn'.out]; exact hkM
          rcases HJ8.out.row.2 with ⟨h1, h2⟩ | ⟨g1, cap1, cur1, h1, _, hgc1, _⟩
          · have := HJn.out; omega
          rcases HK8.out.row.2 with ⟨h3, h4⟩ | ⟨g2, cap2, cur2, h3, _, hgc2, _⟩
          · have := HJn'.out; omega
          simp only [Value.slice.injEq] at h1 h3
          obtain ⟨rfl, -, rfl⟩ := h1
          obtain ⟨rfl, -, rfl⟩ := h3
          have hg1l := lt_of_block hgc1
          have hg2l := lt_of_block hgc2
          obtain ⟨u1, hu1⟩ := HJv.out k hkL
          obtain ⟨u2, hu2⟩ := HJv'.out k hkM
          rw [List.getElem?_eq_getElem hkJ, Option.some.injEq] at hu1
          rw [List.getElem?_eq_getElem hkJ', Option.some.injEq] at hu2
          have hpp1 := HWA.out.pp k
          have hpp2 := HWB.out.pp k
          have hGk := HGr.out.2.2 k hkL
          have hm1 := HJ8.out.lg J[k] (List.getElem_mem hkJ)
          have hm2 := HK8.out.lg J'[k] (List.getElem_mem hkJ')
          have hc1 : ∀ i u, i < 10 → (J[k]).cs[i]? = some u → wX.cell? ⟨g1, k * 10 + i, none⟩ = some u := fun i u hi hu => by
            have h3 := HJ8.out.row.cells (g := g1) rfl (k * 10 + i) u (by rw [jcs_get J k i hkJ hi]; exact hu)
            rw [Addr.add_lit, Nat.zero_add] at h3
            exact h3
          have hc2 : ∀ i u, i < 10 → (J'[k]).cs[i]? = some u → wX.cell? ⟨g2, k * 10 + i, none⟩ = some u := fun i u hi hu => by
            have h3 := HK8.out.row.cells (g := g2) rfl (k * 10 + i) u (by rw [jcs_get J' k i hkJ' hi]; exact hu)
            rw [Addr.add_lit, Nat.zero_add] at h3
            exact h3
          rw [hu1] at hc1 hm1
          rw [hu2] at hc2 hm2
          generalize sA.L.getD k rr0 = r1 at *
          generalize sB.L.getD k rr0 = r2 at *
          generalize sA.pa k = P1 at *
          generalize sB.pa k = P2 at *
          obtain ⟨pr1, lg1⟩ := P1
          obtain ⟨pr2, lg2⟩ := P2
          simp only at hm1 hm2 hpp1 hpp2
          have hT1 : Tx wX u1 lg1 := tx_own hm1
          have hT2 : Tx wX u2 lg2 := tx_own hm2
          have hcp2 := own_cap hm2
          obtain ⟨p1, c1, rfl⟩ := own_slice hm1
          obtain ⟨p2, c2, rfl⟩ := own_slice hm2
          have HP : Hid (∀ V, Below wX.heap.size wX V → Calls Try.prog 10 #[.agg (plC r1 pr1 (.slice p1 lg1.length c1)), .agg (plC r2 pr2 (.slice p2 lg2.length c2))] V fun e w' => e = .returned (.bool true) ∧ Below V.heap.size V w') := hide fun V hV => by
            have h9 := grown_any (w := V) (r := r1) (q := r2) (P := ⟨pr1, lg1⟩) (P' := ⟨pr2, lg2⟩) (t := .slice p1 lg1.length c1) (u := .slice p2 lg2.length c2) hGk (hT1.below hV (Nat.le_refl _)) (hT2.below hV (Nat.le_refl _)) hpp1.2.1 hpp2.2.1 hcp2
            exact h9
          simp only [plC] at HP
          generalize lg1.length = n1 at *
          generalize lg2.length = n2 at *
          have hki : (k : Int) < (n : Int) := by omega
          have hki' : (k : Int) < (n' : Int) := by omega
          have hg1 := hg1l
          have hg2 := hg2l
          have hkX : Hid True := hide trivial
          have HCe : Hid (∀ w' : World, (fun w' => Below wX.heap.size wX w' ∧ w'.heap[P]? = some (.cells #[.int .i64 sA.res, .slice (some ⟨g1, 0, none⟩) n cj] 30 (0, 0)) ∧ w'.heap[X]? = some (.cells #[.int .i64 sB.res, .slice (some ⟨g2, 0, none⟩) n' cj'] 30 (0, 0))) w' → w'.cell? ⟨P, 1, none⟩ = some (.slice (some ⟨g1, 0, none⟩) n cj) ∧ w'.cell? ⟨X, 1, none⟩ = some (.slice (some ⟨g2, 0, none⟩) n' cj') ∧ w'.cell? ⟨g1, k * 10, none⟩ = some (.int .i64 r1.job) ∧ w'.cell? ⟨g1, k * 10 + 1, none⟩ = some (.int .i64 r1.st) ∧ w'.cell? ⟨g1, k * 10 + 2, none⟩ = some (.int .i64 r1.att) ∧ w'.cell? ⟨g1, k * 10 + 3, none⟩ = some (.int .i64 r1.bdg) ∧ w'.cell? ⟨g1, k * 10 + 4, none⟩ = some (.int .i64 r1.node) ∧ w'.cell? ⟨g1, k * 10 + 5, none⟩ = some (.int .i64 r1.life) ∧ w'.cell? ⟨g1, k * 10 + 6, none⟩ = some (.int .i64 r1.code) ∧ w'.cell? ⟨g1, k * 10 + 7, none⟩ = some (.int .u64 r1.bits) ∧ w'.cell? ⟨g1, k * 10 + 8, none⟩ = some (.string pr1) ∧ w'.cell? ⟨g1, k * 10 + 9, none⟩ = some (.slice p1 n1 c1) ∧ w'.cell? ⟨g2, k * 10, none⟩ = some (.int .i64 r2.job) ∧ w'.cell? ⟨g2, k * 10 + 1, none⟩ = some (.int .i64 r2.st) ∧ w'.cell? ⟨g2, k * 10 + 2, none⟩ = some (.int .i64 r2.att) ∧ w'.cell? ⟨g2, k * 10 + 3, none⟩ = some (.int .i64 r2.bdg) ∧ w'.cell? ⟨g2, k * 10 + 4, none⟩ = some (.int .i64 r2.node) ∧ w'.cell? ⟨g2, k * 10 + 5, none⟩ = some (.int .i64 r2.life) ∧ w'.cell? ⟨g2, k * 10 + 6, none⟩ = some (.int .i64 r2.code) ∧ w'.cell? ⟨g2, k * 10 + 7, none⟩ = some (.int .u64 r2.bits) ∧ w'.cell? ⟨g2, k * 10 + 8, none⟩ = some (.string pr2) ∧ w'.cell? ⟨g2, k * 10 + 9, none⟩ = some (.slice p2 n2 c2)) := hide fun w' hw => ⟨by simp [World.cell?, hw.2.1], by simp [World.cell?, hw.2.2], (hw.1.cell (p := ⟨g1, k * 10, none⟩) hg1).trans (hc1 0 _ (by decide) rfl), (hw.1.cell (p := ⟨g1, k * 10 + 1, none⟩) hg1).trans (hc1 1 _ (by decide) rfl), (hw.1.cell (p := ⟨g1, k * 10 + 2, none⟩) hg1).trans (hc1 2 _ (by decide) rfl), (hw.1.cell (p := ⟨g1, k * 10 + 3, none⟩) hg1).trans (hc1 3 _ (by decide) rfl), (hw.1.cell (p := ⟨g1, k * 10 + 4, none⟩) hg1).trans (hc1 4 _ (by decide) rfl), (hw.1.cell (p := ⟨g1, k * 10 + 5, none⟩) hg1).trans (hc1 5 _ (by decide) rfl), (hw.1.cell (p := ⟨g1, k * 10 + 6, none⟩) hg1).trans (hc1 6 _ (by decide) rfl), (hw.1.cell (p := ⟨g1, k * 10 + 7, none⟩) hg1).trans (hc1 7 _ (by decide) rfl), (hw.1.cell (p := ⟨g1, k * 10 + 8, none⟩) hg1).trans (hc1 8 _ (by decide) rfl), (hw.1.cell (p := ⟨g1, k * 10 + 9, none⟩) hg1).trans (hc1 9 _ (by decide) rfl), (hw.1.cell (p := ⟨g2, k * 10, none⟩) hg2).trans (hc2 0 _ (by decide) rfl), (hw.1.cell (p := ⟨g2, k * 10 + 1, none⟩) hg2).trans (hc2 1 _ (by decide) rfl), (hw.1.cell (p := ⟨g2, k * 10 + 2, none⟩) hg2).trans (hc2 2 _ (by decide) rfl), (hw.1.cell (p := ⟨g2, k * 10 + 3, none⟩) hg2).trans (hc2 3 _ (by decide) rfl), (hw.1.cell (p := ⟨g2, k * 10 + 4, none⟩) hg2).trans (hc2 4 _ (by decide) rfl), (hw.1.cell (p := ⟨g2, k * 10 + 5, none⟩) hg2).trans (hc2 5 _ (by decide) rfl), (hw.1.cell (p := ⟨g2, k * 10 + 6, none⟩) hg2).trans (hc2 6 _ (by decide) rfl), (hw.1.cell (p := ⟨g2, k * 10 + 7, none⟩) hg2).trans (hc2 7 _ (by decide) rfl), (hw.1.cell (p := ⟨g2, k * 10 + 8, none⟩) hg2).trans (hc2 8 _ (by decide) rfl), (hw.1.cell (p := ⟨g2, k * 10 + 9, none⟩) hg2).trans (hc2 9 _ (by decide) rfl)⟩
          clear hc1 hc2 hm1 hm2 hT1 hT2 hu1 hu2 hgc1 hgc2 hpp1 hpp2 hGk hcp2
          go_upto_region 15 with fail
          refine wp_region_held_drew (S := fun w' => Below wX.heap.size wX w' ∧ w'.heap[P]? = some (.cells #[.int .i64 sA.res, .slice (some ⟨g1, 0, none⟩) n cj] 30 (0, 0)) ∧ w'.heap[X]? = some (.cells #[.int .i64 sB.res, .slice (some ⟨g2, 0, none⟩) n' cj'] 30 (0, 0))) (by kernel_rfl) (⟨HBv.out.drew, HPv.out, HXv.out⟩) (fun hHeld => ?_)
          refine wpAnyH_take (i := 0) (v := .pointer (some ⟨P, 1, none⟩)) rfl (by kernel_rfl) (by kernel_rfl) (by kernel_rfl) (fun _ _ _ h => h) (Or.inl ⟨by kernel_rfl, fun w1 hSw => by clear hHeld; obtain ⟨f0, f1, f2, f3, f4, f5, f6, f7, f8, f9, f10, f11, f12, f13, f14, f15, f16, f17, f18, f19, f20, f21⟩ := HCe.out _ hSw; go_simp⟩) hHeld ?_
          try simp only [Act.put]
          try simp only [List.getElem_toArray]
          try simp only [List.getElem_cons_succ]
          try simp only [List.getElem_cons_zero]
          try simp only [List.setIfInBounds_toArray]
          try simp only [List.set_cons_succ, List.set_cons_zero]
          refine wpAnyH_take (i := 1) (v := .slice (some ⟨g1, 0, none⟩) n cj) rfl (by kernel_rfl) (by kernel_rfl) (by kernel_rfl) (fun _ _ _ h => h) (Or.inl ⟨by kernel_rfl, fun w1 hSw => by clear hHeld; obtain ⟨f0, f1, f2, f3, f4, f5, f6, f7, f8, f9, f10, f11, f12, f13, f14, f15, f16, f17, f18, f19, f20, f21⟩ := HCe.out _ hSw; go_simp⟩) hHeld ?_
          try simp only [Act.put]
          try simp only [List.getElem_toArray]
          try simp only [List.getElem_cons_succ]
          try simp only [List.getElem_cons_zero]
          try simp only [List.setIfInBounds_toArray]
          try simp only [List.set_cons_succ, List.set_cons_zero]
          refine wpAnyH_take (i := 2) (v := .int .i64 (k : Int)) rfl (by kernel_rfl) (by kernel_rfl) (by kernel_rfl) (fun _ _ _ h => h) (Or.inl ⟨by kernel_rfl, fun w1 hSw => by clear hHeld; obtain ⟨f0, f1, f2, f3, f4, f5, f6, f7, f8, f9, f10, f11, f12, f13, f14, f15, f16, f17, f18, f19, f20, f21⟩ := HCe.out _ hSw; go_simp⟩) hHeld ?_
          try simp only [Act.put]
          try simp only [List.getElem_toArray]
          try simp only [List.getElem_cons_succ]
          try simp only [List.getElem_cons_zero]
          try simp only [List.setIfInBounds_toArray]
          try simp only [List.set_cons_succ, List.set_cons_zero]
          refine wpAnyH_take (i := 3) (v := .pointer (some ⟨g1, k * 10, none⟩)) rfl (by kernel_rfl) (by kernel_rfl) (by kernel_rfl) (fun _ _ _ h => h) (Or.inl ⟨by kernel_rfl, fun w1 hSw => by clear hHeld; obtain ⟨f0, f1, f2, f3, f4, f5, f6, f7, f8, f9, f10, f11, f12, f13, f14, f15, f16, f17, f18, f19, f20, f21⟩ := HCe.out _ hSw; go_simp⟩) hHeld ?_
          try simp only [Act.put]
          try simp only [List.getElem_toArray]
          try simp only [List.getElem_cons_succ]
          try simp only [List.getElem_cons_zero]
          try simp only [List.setIfInBounds_toArray]
          try simp only [List.set_cons_succ, List.set_cons_zero]
          refine wpAnyH_take (i := 4) (v := .agg #[.int .i64 r1.job, .int .i64 r1.st, .int .i64 r1.att, .int .i64 r1.bdg, .int .i64 r1.node, .int .i64 r1.life, .int .i64 r1.code, .int .u64 r1.bits, .string pr1, .slice p1 n1 c1]) rfl (by kernel_rfl) (by kernel_rfl) (by kernel_rfl) (fun _ _ _ h => h) (Or.inl ⟨by kernel_rfl, fun w1 hSw => by clear hHeld; obtain ⟨f0, f1, f2, f3, f4, f5, f6, f7, f8, f9, f10, f11, f12, f13, f14, f15, f16, f17, f18, f19, f20, f21⟩ := HCe.out _ hSw; go_simp⟩) hHeld ?_
          try simp only [Act.put]
          try simp only [List.getElem_toArray]
          try simp only [List.getElem_cons_succ]
          try simp only [List.getElem_cons_zero]
          try simp only [List.setIfInBounds_toArray]
          try simp only [List.set_cons_succ, List.set_cons_zero]
          refine wpAnyH_take (i := 5) (v := .pointer (some ⟨X, 1, none⟩)) rfl (by kernel_rfl) (by kernel_rfl) (by kernel_rfl) (fun _ _ _ h => h) (Or.inl ⟨by kernel_rfl, fun w1 hSw => by clear hHeld; obtain ⟨f0, f1, f2, f3, f4, f5, f6, f7, f8, f9, f10, f11, f12, f13, f14, f15, f16, f17, f18, f19, f20, f21⟩ := HCe.out _ hSw; go_simp⟩) hHeld ?_
          try simp only [Act.put]
          try simp only [List.getElem_toArray]
          try simp only [List.getElem_cons_succ]
          try simp only [List.getElem_cons_zero]
          try simp only [List.setIfInBounds_toArray]
          try simp only [List.set_cons_succ, List.set_cons_zero]
          refine wpAnyH_take (i := 6) (v := .slice (some ⟨g2, 0, none⟩) n' cj') rfl (by kernel_rfl) (by kernel_rfl) (by kernel_rfl) (fun _ _ _ h => h) (Or.inl ⟨by kernel_rfl, fun w1 hSw => by clear hHeld; obtain ⟨f0, f1, f2, f3, f4, f5, f6, f7, f8, f9, f10, f11, f12, f13, f14, f15, f16, f17, f18, f19, f20, f21⟩ := HCe.out _ hSw; go_simp⟩) hHeld ?_
          try simp only [Act.put]
          try simp only [List.getElem_toArray]
          try simp only [List.getElem_cons_succ]
          try simp only [List.getElem_cons_zero]
          try simp only [List.setIfInBounds_toArray]
          try simp only [List.set_cons_succ, List.set_cons_zero]
          refine wpAnyH_take (i := 7) (v := .int .i64 (k : Int)) rfl (by kernel_rfl) (by kernel_rfl) (by kernel_rfl) (fun _ _ _ h => h) (Or.inl ⟨by kernel_rfl, fun w1 hSw => by clear hHeld; obtain ⟨f0, f1, f2, f3, f4, f5, f6, f7, f8, f9, f10, f11, f12, f13, f14, f15, f16, f17, f18, f19, f20, f21⟩ := HCe.out _ hSw; go_simp⟩) hHeld ?_
          try simp only [Act.put]
          try simp only [List.getElem_toArray]
          try simp only [List.getElem_cons_succ]
          try simp only [List.getElem_cons_zero]
          try simp only [List.setIfInBounds_toArray]
          try simp only [List.set_cons_succ, List.set_cons_zero]
          refine wpAnyH_take (i := 8) (v := .pointer (some ⟨g2, k * 10, none⟩)) rfl (by kernel_rfl) (by kernel_rfl) (by kernel_rfl) (fun _ _ _ h => h) (Or.inl ⟨by kernel_rfl, fun w1 hSw => by clear hHeld; obtain ⟨f0, f1, f2, f3, f4, f5, f6, f7, f8, f9, f10, f11, f12, f13, f14, f15, f16, f17, f18, f19, f20, f21⟩ := HCe.out _ hSw; go_simp⟩) hHeld ?_
          try simp only [Act.put]
          try simp only [List.getElem_toArray]
          try simp only [List.getElem_cons_succ]
          try simp only [List.getElem_cons_zero]
          try simp only [List.setIfInBounds_toArray]
          try simp only [List.set_cons_succ, List.set_cons_zero]
          refine wpAnyH_take (i := 9) (v := .agg #[.int .i64 r2.job, .int .i64 r2.st, .int .i64 r2.att, .int .i64 r2.bdg, .int .i64 r2.node, .int .i64 r2.life, .int .i64 r2.code, .int .u64 r2.bits, .string pr2, .slice p2 n2 c2]) rfl (by kernel_rfl) (by kernel_rfl) (by kernel_rfl) (fun _ _ _ h => h) (Or.inl ⟨by kernel_rfl, fun w1 hSw => by clear hHeld; obtain ⟨f0, f1, f2, f3, f4, f5, f6, f7, f8, f9, f10, f11, f12, f13, f14, f15, f16, f17, f18, f19, f20, f21⟩ := HCe.out _ hSw; go_simp⟩) hHeld ?_
          try simp only [Act.put]
          try simp only [List.getElem_toArray]
          try simp only [List.getElem_cons_succ]
          try simp only [List.getElem_cons_zero]
          try simp only [List.setIfInBounds_toArray]
          try simp only [List.set_cons_succ, List.set_cons_zero]
          refine wpAnyH_ready (rs := [10]) (by kernel_rfl) (by simp) ?_
          refine AllReadyH.cons rfl (fun K hK => ?_) AllReadyH.nil
          go_simp
          refine (HP.out _ hHeld.1).mono ?_
          rintro e V1 ⟨rfl, hb⟩
          have HS1 := hide (⟨hHeld.1.trans (hb.mono hHeld.1.size), (hb.block _ (lt_of_block hHeld.2.1)).trans hHeld.2.1, (hb.block _ (lt_of_block hHeld.2.2)).trans hHeld.2.2⟩ : _ ∧ _ ∧ _)
          clear hb
          refine hK.out _ _ (HS1.out) (fun hHeld => ?_)
          clear hK K
          try simp only [Act.put]
          try simp only [List.getElem_toArray]
          try simp only [List.getElem_cons_succ]
          try simp only [List.getElem_cons_zero]
          try simp only [List.setIfInBounds_toArray]
          try simp only [List.set_cons_succ, List.set_cons_zero]
          refine wpAnyH_take (i := 11) (v := .bool true) rfl (by kernel_rfl) (by kernel_rfl) (by kernel_rfl) (fun _ _ _ h => h) (Or.inl ⟨by kernel_rfl, fun w1 hSw => by clear hHeld; obtain ⟨f0, f1, f2, f3, f4, f5, f6, f7, f8, f9, f10, f11, f12, f13, f14, f15, f16, f17, f18, f19, f20, f21⟩ := HCe.out _ hSw; go_simp⟩) hHeld ?_
          try simp only [Act.put]
          try simp only [List.getElem_toArray]
          try simp only [List.getElem_cons_succ]
          try simp only [List.getElem_cons_zero]
          try simp only [List.setIfInBounds_toArray]
          try simp only [List.set_cons_succ, List.set_cons_zero]
          refine wpAnyH_done (by kernel_rfl) ?_ _
          have HBf := hide HS1.out.1
          clear HS1 hHeld HP HCe HBv HPv HXv
          go_wp2_with fail
          go_roundw
          case rel => exact ⟨k + 1, by go_num, by omega, HBf⟩
          case measure => simp only [intOf]; omega
        · obtain rfl : n = k := by omega
          have hki : ¬ ((n : Int) < (n : Int)) := by omega
          have hXv := HXv.out
          have hPv := HPv.out
          have x0 : wr.cell? ⟨X, 0, none⟩ = some (.int .i64 sB.res) := by simp [World.cell?, hXv]
          have x1 : wr.cell? ⟨X, 1, none⟩ = some (.slice pj' n' cj') := by simp [World.cell?, hXv]
          have y0 : wr.cell? ⟨P, 0, none⟩ = some (.int .i64 sA.res) := by simp [World.cell?, hPv]
          have z0 : wr.frozen? ⟨P, 0, none⟩ = false := by simp [World.frozen?, hPv]
          have z1 : wr.frozen? ⟨P, 1, none⟩ = false := by simp [World.frozen?, hPv]
          have hPl := lt_of_block hPv
          have hP1 : (wr.setCell ⟨P, 0, none⟩ (.int .i64 sB.res)).heap[P]? = some (.cells #[.int .i64 sB.res, .slice pj n cj] 30 (0, 0)) := by rw [cells_set hPv]; rfl
          have hPs : ((wr.setCell ⟨P, 0, none⟩ (.int .i64 sB.res)).setCell ⟨P, 1, none⟩ (.slice pj' n' cj')).heap[P]? = some (.cells #[.int .i64 sB.res, .slice pj' n' cj'] 30 (0, 0)) := by rw [cells_set hP1]; rfl
          have HPf := hide hPs
          have HJf := hide (((HK8.out.below HBv.out).box hPv 0 (.int .i64 sB.res)).box hP1 1 (.slice pj' n' cj'))
          have hSv := HS8.out.below HBv.out
          have HSf : Hid (Sd N ((wr.setCell ⟨P, 0, none⟩ (.int .i64 sB.res)).setCell ⟨P, 1, none⟩ (.slice pj' n' cj')) bA x sB) := hide (hSv.keep (by rw [Q.setCell_size, Q.setCell_size]; exact Nat.le_refl _) fun g _ hn => by
            have hgP : g ≠ P := by
              rintro rfl
              rcases hn with e | e
              · exact HPA.out e
              · exact e HNp.out
            exact (Below.heap_setCell _ ⟨P, 1, none⟩ _ g hgP).trans (Below.heap_setCell _ ⟨P, 0, none⟩ _ g hgP))
          have HBg := HB8.out.trans (HBv.out.mono HB8.out.size)
          have HBf := hide ((HBg.setCell (p := ⟨P, 0, none⟩) hPw (.int .i64 sB.res)).setCell (p := ⟨P, 1, none⟩) hPw (.slice pj' n' cj'))
          have HJnf : Hid (J'.length = sB.L.length) := HJn'
          clear hXv hPv hPs hP1 hSv HBg HXv HPv HBv HS8 HJ8 HK8 HP8 HX8 HB8
          go_wp2_with fail
          go_roundw
          case rel => exact ⟨i + 1, sB, _, J', _, by go_num, by omega, HWB, HSf, HPf, HJf, HJnf, HJv', HBf⟩
          case measure => simp only [intOf]; omega
    · obtain rfl : i = l.length := by omega
      have hii : ¬ ((l.length : Int) < (l.length : Int)) := by omega
      go_wp2_with fail
      refine (sfixed_any _).mono ?_
      rintro e w3 ⟨rfl, hb3⟩
      have HB3 := hide (HB.out.trans (hb3.mono HB.out.size))
      clear hb3 HB
      go_wp2_with fail
      go_ret
      exact ⟨rfl, HB3.out⟩
end Go.Proofs.Ytjalmmdihkcboaa.S
end
