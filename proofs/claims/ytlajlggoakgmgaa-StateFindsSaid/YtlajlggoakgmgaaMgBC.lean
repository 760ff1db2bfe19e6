import Derived.Test.YtlajlggoakgmgaaMgBB

section
namespace Go.Proofs.Ytlajlggoakgmgaa.S
open Go.RowKit
open Rc (Ch)
open Q (Rr rr0 Qm Ft Mv fnd hd hdF)

/-- Find, by the view -/
theorem fnd_row {m : Int} {s : Sx} (h : Wf m s) {i : Nat} (hi : i < s.L.length) : (0 < (s.L[i]).bdg ∧ fnd (s.L[i]).bdg s.L = s.L[i] ∧ fnd (s.L[i]).bdg s.L ≠ rr0) ∨ ((s.L[i]).bdg = 0 ∧ fnd (s.L[i]).bdg s.L = rr0) := by
  have hj := h.ok.job i hi
  have hne : s.L[i] ≠ rr0 := fun e => by rw [e] at hj; simp [rr0] at hj; omega
  rcases h.ok.bd i hi with ⟨ha, hb⟩ | ⟨ha, hb, _⟩
  · right
    refine ⟨hb, ?_⟩
    rcases Q.fnd_or (s.L[i]).bdg s.L with ⟨e, _⟩ | ⟨j, hj', e, h1, h2⟩
    · exact e
    · rcases h.ok.bd j hj' with ⟨hc, _⟩ | ⟨_, hc, _⟩
      · omega
      · rw [hb] at h2; omega
  · left
    have hat := (h.ok.att i hi).1
    rcases Q.fnd_or (s.L[i]).bdg s.L with ⟨_, e⟩ | ⟨j, hj', e, h1, h2⟩
    · exact absurd ⟨by omega, rfl⟩ (e i hi)
    · have := h.ok.uni i j hi hj' (by omega) h2.symm
      subst this
      exact ⟨by omega, e, by rw [e]; exact hne⟩
theorem fnd_zero {m : Int} {s : Sx} (h : Wf m s) : fnd 0 s.L = rr0 := by
  rcases Q.fnd_or 0 s.L with ⟨e, _⟩ | ⟨j, hj, _, h1, h2⟩
  · exact e
  · rcases h.ok.bd j hj with ⟨hc, _⟩ | ⟨_, hc, _⟩ <;> omega
theorem fnd_above {m : Int} {s : Sx} (h : Wf m s) : fnd (s.res + 1) s.L = rr0 := by
  rcases Q.fnd_or (s.res + 1) s.L with ⟨e, _⟩ | ⟨j, hj, _, h1, h2⟩
  · exact e
  · have := h.bd j hj; omega
theorem hd_step {m : Int} {s : Sx} (h : Wf m s) {k : Nat} (hk : k < s.L.length) : hd (s.L.take (k + 1)) = if hd (s.L.take k) = 0 ∧ (s.L[k]).st = 1 then (k : Int) + 1 else hd (s.L.take k) := by
  rw [← List.take_append_getElem hk]
  unfold hd
  rw [List.foldl_append]
  show hdF _ _ = _
  unfold hdF
  rw [h.ok.job k hk]
theorem idx_one {m : Int} {s : Sx} (h : Wf m s) {i j : Nat} (hi : i < s.L.length) (hj : j < s.L.length) (e : s.L[i] = s.L.getD j rr0) : j = i := by
  rw [List.getD_eq_getElem?_getD, List.getElem?_eq_getElem hj] at e
  have h1 := h.ok.job i hi
  have h2 := h.ok.job j hj
  rw [e] at h1
  simp only [Option.getD_some] at h1
  omega
theorem sd_drew {N : Nat → Prop} {w : World} {b : Nat} {m : Int} {s : Sx} (h : Sd N w b m s) : Sd N w.drew b m s := h.keep (Nat.le_refl _) fun _ _ _ => rfl
theorem AP.out {N : Nat → Prop} {m : Int} {s : Sx} {l : List Ch} {b : Nat} {w w' : World} {e : Ending} (h : AP N m s l b w e w') (hW : Wf m s) (hr : ∀ c ∈ l, c.rb < 18446744073709551616) (hS : Sd N w b m s) :
    ∃ (t : Sx) (p q : Int), e = .returned (.tuple #[.int .i64 p, .int .i64 q]) ∧ Wf m t ∧ Sd N w' b m t ∧ Mv (fun g => g = b) (fun g => g = b) w w' := by
  cases h with
  | no h1 h2 h3 => exact ⟨s, _, _, h2, hW, hS.below h3, Mv.of_below h3⟩
  | yes t h1 h2 h3 h4 => exact ⟨t, _, _, h2, app_wf hW hr h1, h3, h4⟩
set_option maxHeartbeats 4000000 in
set_option maxRecDepth 20000 in
theorem stateFinds_walk (x : Int) (_ : -9223372036854775808 ≤ x) (_ : x ≤ 9223372036854775807) {w : World} {va : Value} {l : List Ch} (hR : Rw w va l) (hl : l.length ≤ 1353245080301) (hC : ∀ p n c, va = .slice p n c → n ≤ c ∧ c ≤ maxLen) :
    Calls Try.prog 6 #[.int .i64 x, va] w fun e w' => e = .returned (.bool true) ∧ Below w.heap.size w w' := by
  have hRw := hR
  obtain ⟨pv, cap, rfl, hx0⟩ := hR
  obtain ⟨hcap, hcm⟩ := hC _ _ _ rfl
  have HRB : Hid (∀ c ∈ l, c.rb < 18446744073709551616) := hide fun c hc => by
    obtain ⟨j, hj, e⟩ := List.getElem_of_mem hc
    obtain ⟨_, _, _, _, hcc⟩ := hx0 (by omega)
    obtain ⟨_, _, _, h3, _⟩ := hcc j hj
    rw [getElem!_pos l j hj, e] at h3
    exact h3
  have HX0 := hide hx0
  have HR0 := hide hRw
  clear hx0 hRw hC
  have HNa := hide (new_any w x)
  go_enter Try.func6, Try.ntmps6
  go_wp2_with fail
  refine HNa.out.mono ?_
  rintro e w1 (⟨hno, rfl, hb1⟩ | ⟨bA, hyes, hok, rfl, hblA, hsdA, hb1⟩)
  · have HB1 := hide hb1
    clear hb1 HNa
    by_cases hx1 : x < 1
    · have d1 : decide (x < 1) = true := decide_eq_true hx1
      go_wp2_with fail
      refine (sfixed_any _).mono ?_
      rintro e w3 ⟨rfl, hb3⟩
      have HB3 := hide (HB1.out.trans (hb3.mono HB1.out.size))
      clear hb3 HB1
      go_wp2_with fail
      go_ret
      exact ⟨rfl, HB3.out⟩
    · have hx8 : 8 < x := by omega
      have d1 : decide (x < 1) = false := decide_eq_false hx1
      have d2 : decide (8 < x) = true := decide_eq_true hx8
      go_wp2_with fail
      refine (sfixed_any _).mono ?_
      rintro e w3 ⟨rfl, hb3⟩
      have HB3 := hide (HB1.out.trans (hb3.mono HB1.out.size))
      clear hb3 HB1
      go_wp2_with fail
      go_ret
      exact ⟨rfl, HB3.out⟩
  obtain ⟨N, hN⟩ : ∃ N : Nat → Prop, N = fun g => g = bA := ⟨_, rfl⟩
  have hSA1 := hsdA N (fun g hg => by rw [hN] at hg; exact .inr hg)
  have HW0 := hide (wf0 hok)
  have HSA1 := hide hSA1
  have HB1 := hide hb1
  have HNb : Hid (N bA) := hide (by rw [hN])
  have HNd : Hid (∀ g, N g → g = bA) := hide fun g hg => by rw [hN] at hg; exact hg
  clear hb1 HNa hSA1 hsdA hN
  go_wp2_with fail
  go_loopw [7] (fun u wr => ∃ (i : Nat) (sA : Sx), u = .int .i64 (i : Int) ∧ i ≤ l.length ∧ Hid (Wf x sA) ∧ Hid (Sd N wr bA x sA) ∧ Hid (Below w.heap.size w wr)) (fun u _ => l.length - (intOf u).toNat)
  case atStart => exact ⟨0, sx0, rfl, Nat.zero_le _, HW0, HSA1, HB1⟩
  case round =>
    clear HSA1 HB1 HW0
    obtain ⟨i, sA, rfl, hi, HWA, HSA, HB⟩ := hrel
    by_cases hil : i < l.length
    · obtain ⟨bb, off, hpv, hlt, hcc⟩ := HX0.out (by omega)
      subst hpv
      have hii : (i : Int) < (l.length : Int) := by omega
      have hic : (i : Int) + 1 ≤ (cap : Int) := by omega
      have hRs := rw_sub (HR0.out.below HB.out (Nat.le_refl _)) (i := i) (k := i + 1) (Nat.le_succ _) hil (cap - i)
      have e11 : i + 1 - i = 1 := by omega
      rw [e11] at hRs
      have HAy := hide (apply_any HSA.out (fun g hg => by rw [HNd.out g hg]; exact HSA.out.lt) HNb.out HWA.out hRs (by rw [List.length_take, List.length_drop]; omega))
      have HRl : Hid (∀ c ∈ (l.drop i).take 1, c.rb < 18446744073709551616) := hide fun c hc => HRB.out c (List.mem_of_mem_drop (List.mem_of_mem_take hc))
      clear hRs hcc
      go_wp2_with fail
      refine HAy.out.mono ?_
      intro e w2 hAP
      obtain ⟨sB, p0, q0, rfl, hWB, hSB, hM⟩ := hAP.out HWA.out HRl.out HSA.out
      have HWB := hide hWB
      have HB2 := hide (HB.out.trans (hM.below (B := w.heap.size) HB.out.size (fun g hg => by rw [hg]; exact hblA)))
      have HVw := hide (view_any hSB hWB)
      have HSB := hide hSB
      clear hAP hWB hSB hM HAy HSA HB HWA HRl
      go_wp2_with fail
      refine HVw.out.mono ?_
      rintro e w3 ⟨vj, J, rfl, hJ, hJn, hJv, hb3⟩
      obtain ⟨pj, cj, hvj⟩ := own_slice hJ.row
      rw [hJn] at hvj
      subst hvj
      obtain ⟨X, hX⟩ : ∃ X, w3.heap.size = X := ⟨_, rfl⟩
      have hbX := below_alloc w3 (.cells #[.int .i64 sB.res, .slice pj sB.L.length cj] 35)
      have hX8 := heap_alloc_new w3 (.cells #[.int .i64 sB.res, .slice pj sB.L.length cj] 35)
      rw [hX] at hX8
      have HS8 := hide ((HSB.out.below hb3).below hbX)
      have HJ8 := hide (hJ.below hbX)
      have HB8 := hide ((HB2.out.trans (hb3.mono HB2.out.size)).alloc (HB2.out.trans (hb3.mono HB2.out.size)).size (.cells #[.int .i64 sB.res, .slice pj sB.L.length cj] 35))
      have HX8 := hide hX8
      have HJn := hide hJn
      have HJv := hide hJv
      have hl8 := HWB.out.ok.len
      clear hJ hJn hJv hb3 hbX hX8 HVw HSB HB2
      go_upto_region 9 with fail
      generalize w3.alloc (.cells #[.int .i64 sB.res, .slice pj sB.L.length cj] 35) = wX at *
      obtain ⟨n, hn⟩ : ∃ n, sB.L.length = n := ⟨_, rfl⟩
      have HNn := hide hn
      rw [hn] at hl8 HX8 HJ8 ⊢
      clear hn
      go_wp2_with fail
      go_loopw [9, 10] (fun u9 u10 wv => ∃ k : Nat, u10 = .int .i64 (k : Int) ∧ k ≤ n ∧ u9 = .int .i64 (hd (sB.L.take k)) ∧ Hid (Below wX.heap.size wX wv)) (fun _ u10 _ => n - (intOf u10).toNat)
      case atStart => exact ⟨0, rfl, Nat.zero_le _, rfl, hide (Below.refl _ _)⟩
      case round =>
        obtain ⟨k, rfl, hk, rfl, HBv⟩ := hrel
        have hXv := (HBv.out.block X (lt_of_block HX8.out)).trans HX8.out
        have HXv := hide hXv
        have x0 : wr.cell? ⟨X, 0, none⟩ = some (.int .i64 sB.res) := by simp [World.cell?, hXv]
        have x1 : wr.cell? ⟨X, 1, none⟩ = some (.slice pj n cj) := by simp [World.cell?, hXv]
        by_cases hkn : k < n
        · have hkL : k < sB.L.length := by rw [HNn.out]; exact hkn
          have hkJ : k < J.length := by rw [HJn.out]; exact hkL
          obtain ⟨t, htq⟩ := HJv.out k hkL
          rw [List.getElem?_eq_getElem hkJ, Option.some.injEq] at htq
          have hJr := HJ8.out
          rcases hJr.row.2 with ⟨h1, h2⟩ | ⟨g, cap', cur, h1, _, hgc, _⟩
          · have := HJn.out; omega
          simp only [Value.slice.injEq] at h1
          obtain ⟨rfl, -, rfl⟩ := h1
          have hgl := lt_of_block hgc
          have hlgk := hJr.lg J[k] (List.getElem_mem hkJ)
          have hcell : ∀ i u, i < 10 → (J[k]).cs[i]? = some u → wr.cell? ⟨g, k * 10 + i, none⟩ = some u := fun i u hi hu => by
            have h3 := hJr.row.cells (g := g) rfl (k * 10 + i) u (by rw [jcs_get J k i hkJ hi]; exact hu)
            rw [Addr.add_lit, Nat.zero_add] at h3
            exact (HBv.out.cell (p := ⟨g, k * 10 + i, none⟩) hgl).trans h3
          rw [htq] at hcell hlgk
          have er : sB.L.getD k rr0 = sB.L[k] := by rw [List.getD_eq_getElem?_getD, List.getElem?_eq_getElem hkL]; rfl
          have hjob := HWB.out.ok.job k hkL
          have hbd := HWB.out.bd k hkL
          have hfr := HWB.out.fr k hkL
          have hpp := HWB.out.pp k
          have hfnd := fnd_row HWB.out hkL
          have HH := hide (hd_step HWB.out hkL)
          have HIx : Hid (∀ j, j < sB.L.length → fnd (sB.L[k]).bdg sB.L = sB.L.getD j rr0 → fnd (sB.L[k]).bdg sB.L = sB.L[k] → j = k) := hide fun j hj e1 e2 => idx_one HWB.out hkL hj (by rw [← e2]; exact e1)
          rw [er] at hcell
          generalize hrr : sB.L[k] = r at *
          simp only at hlgk
          have hT0 : Tx wX t (sB.pa k).lg := tx_own hlgk
          obtain ⟨pt, ct, rfl⟩ := own_slice hlgk
          obtain ⟨pr, hpr⟩ : ∃ pr, (sB.pa k).pr = pr := ⟨_, rfl⟩
          obtain ⟨nl, hnl⟩ : ∃ nl, (sB.pa k).lg.length = nl := ⟨_, rfl⟩
          have hn32 : nl ≤ 32 := by rw [← hnl]; exact hpp.2.1
          have HFr : Hid (r.att = 0 → nl = 0) := hide fun h0 => by rw [← hnl, hfr h0]; rfl
          have q0 : wr.cell? ⟨g, k * 10, none⟩ = some (.int .i64 ((k : Int) + 1)) := by rw [← hjob]; exact hcell 0 _ (by decide) rfl
          have q1 : wr.cell? ⟨g, k * 10 + 1, none⟩ = some (.int .i64 r.st) := hcell 1 _ (by decide) rfl
          have q2 : wr.cell? ⟨g, k * 10 + 2, none⟩ = some (.int .i64 r.att) := hcell 2 _ (by decide) rfl
          have q3 : wr.cell? ⟨g, k * 10 + 3, none⟩ = some (.int .i64 r.bdg) := hcell 3 _ (by decide) rfl
          have q4 : wr.cell? ⟨g, k * 10 + 4, none⟩ = some (.int .i64 r.node) := hcell 4 _ (by decide) rfl
          have q5 : wr.cell? ⟨g, k * 10 + 5, none⟩ = some (.int .i64 r.life) := hcell 5 _ (by decide) rfl
          have q6 : wr.cell? ⟨g, k * 10 + 6, none⟩ = some (.int .i64 r.code) := hcell 6 _ (by decide) rfl
          have q7 : wr.cell? ⟨g, k * 10 + 7, none⟩ = some (.int .u64 r.bits) := hcell 7 _ (by decide) rfl
          have q8 : wr.cell? ⟨g, k * 10 + 8, none⟩ = some (.string pr) := by rw [← hpr]; exact hcell 8 _ (by decide) rfl
          have q9 : wr.cell? ⟨g, k * 10 + 9, none⟩ = some (.slice pt nl ct) := by rw [← hnl]; exact hcell 9 _ (by decide) rfl
          have hglr : g < wr.heap.size := Nat.lt_of_lt_of_le hgl HBv.out.size
          have hki : (k : Int) < (n : Int) := by omega
          obtain ⟨P, hP⟩ : ∃ P, wr.heap.size = P := ⟨_, rfl⟩
          have hba := below_alloc wr (.cells #[.int .i64 ((k : Int) + 1), .int .i64 r.st, .int .i64 r.att, .int .i64 r.bdg, .int .i64 r.node, .int .i64 r.life, .int .i64 r.code, .int .u64 r.bits, .string pr, .slice pt nl ct] 48)
          have hPn := heap_alloc_new wr (.cells #[.int .i64 ((k : Int) + 1), .int .i64 r.st, .int .i64 r.att, .int .i64 r.bdg, .int .i64 r.node, .int .i64 r.life, .int .i64 r.code, .int .u64 r.bits, .string pr, .slice pt nl ct] 48)
          rw [hP] at hPn
          have HSp := hide ((HS8.out.below HBv.out).below hba)
          have HFd := hide (find_any HSp.out HWB.out r.bdg)
          have HPp := hide hPn
          have HXp := hide ((hba.block X (lt_of_block HXv.out)).trans HXv.out)
          have HBp := hide (HBv.out.alloc HBv.out.size (.cells #[.int .i64 ((k : Int) + 1), .int .i64 r.st, .int .i64 r.att, .int .i64 r.bdg, .int .i64 r.node, .int .i64 r.life, .int .i64 r.code, .int .u64 r.bits, .string pr, .slice pt nl ct] 48))
          have hbr : ¬ (sB.res < r.bdg) := by omega
          have hn33 : ¬ ((32 : Int) < (nl : Int)) := by omega
          have HT0 := hide hT0
          have HLn := hide hnl
          have HLp := hide hpr
          have HRr := hide hrr
          have HJob := hide hjob
          clear hba hPn hcell hlgk hT0 hpp hfr hjob hJr hgc htq er hbd hnl hpr hrr HBv HXv x0
          go_upto_region 14 with fail
          generalize wr.alloc (.cells #[.int .i64 ((k : Int) + 1), .int .i64 r.st, .int .i64 r.att, .int .i64 r.bdg, .int .i64 r.node, .int .i64 r.life, .int .i64 r.code, .int .u64 r.bits, .string pr, .slice pt nl ct] 48) = Wp at *
          clear q0 q1 q2 q3 q4 q5 q6 q7 q8 q9 x1
          have p3 : Wp.cell? ⟨P, 3, none⟩ = some (.int .i64 r.bdg) := by simp [World.cell?, HPp.out]
          go_wp2_with fail
          refine HFd.out.mono ?_
          rintro e w4 (⟨hf0, rfl, hb4⟩ | ⟨j, tf, hf1, hjl, hfe, rfl, hof, hb4⟩)
          · rcases hfnd with ⟨_, _, h3⟩ | ⟨hb0, _⟩
            · exact absurd hf0 h3
            have hba4 := below_alloc w4 (.cells #[.int .i64 0, .int .i64 0, .int .i64 0, .int .i64 0, .int .i64 0, .int .i64 0, .int .i64 0, .int .u64 0, .string ⟨#[]⟩, .slice none 0 0] 48)
            have HPW := hide ((hba4.block _ (Nat.lt_of_lt_of_le (lt_of_block HPp.out) hb4.size)).trans ((hb4.block _ (lt_of_block HPp.out)).trans HPp.out))
            have HXW := hide ((hba4.block _ (Nat.lt_of_lt_of_le (lt_of_block HXp.out) hb4.size)).trans ((hb4.block _ (lt_of_block HXp.out)).trans HXp.out))
            have HBW := hide ((HBp.out.trans (hb4.mono HBp.out.size)).alloc (HBp.out.trans (hb4.mono HBp.out.size)).size (.cells #[.int .i64 0, .int .i64 0, .int .i64 0, .int .i64 0, .int .i64 0, .int .i64 0, .int .i64 0, .int .u64 0, .string ⟨#[]⟩, .slice none 0 0] 48))
            have b0 : decide (0 < r.bdg) = false := decide_eq_false (by omega)
            have b00 : ¬ (0 < r.bdg) := by omega
            clear hf0 hb4 hba4 HFd HPp HXp HBp HSp p3
            go_upto_region 15 with fail
            generalize w4.alloc _ = W at *
            have hPW := HPW.out
            have p0 : W.cell? ⟨P, 0, none⟩ = some (.int .i64 ((k : Int) + 1)) := by simp [World.cell?, hPW]
            have p1 : W.cell? ⟨P, 1, none⟩ = some (.int .i64 r.st) := by simp [World.cell?, hPW]
            have p2 : W.cell? ⟨P, 2, none⟩ = some (.int .i64 r.att) := by simp [World.cell?, hPW]
            have p3 : W.cell? ⟨P, 3, none⟩ = some (.int .i64 r.bdg) := by simp [World.cell?, hPW]
            have p4 : W.cell? ⟨P, 4, none⟩ = some (.int .i64 r.node) := by simp [World.cell?, hPW]
            have p5 : W.cell? ⟨P, 5, none⟩ = some (.int .i64 r.life) := by simp [World.cell?, hPW]
            have p6 : W.cell? ⟨P, 6, none⟩ = some (.int .i64 r.code) := by simp [World.cell?, hPW]
            have p7 : W.cell? ⟨P, 7, none⟩ = some (.int .u64 r.bits) := by simp [World.cell?, hPW]
            have p8 : W.cell? ⟨P, 8, none⟩ = some (.string pr) := by simp [World.cell?, hPW]
            have p9 : W.cell? ⟨P, 9, none⟩ = some (.slice pt nl ct) := by simp [World.cell?, hPW]
            have x0 : W.cell? ⟨X, 0, none⟩ = some (.int .i64 sB.res) := by simp [World.cell?, HXW.out]
            have HFW := HBW
            clear hPW HPW HXW HBW
            by_cases hat : r.att = 0
            · have hnl0 : nl = 0 := HFr.out hat
              have b1 : decide (r.att = 0) = true := decide_eq_true hat
              have hz0 : ¬ ((0 : Int) < (nl : Int)) := by omega
              go_upto_region 17 with fail
              by_cases hq : hd (sB.L.take k) = 0 ∧ r.st = 1
              · have b2 : decide (r.st = 1) = true := decide_eq_true hq.2
                have b3 : decide (hd (sB.L.take k) = 0) = true := decide_eq_true hq.1
                have HE : Hid (hd (sB.L.take (k + 1)) = (k : Int) + 1) := hide (by rw [HH.out, if_pos hq])
                obtain ⟨hq1, hq2⟩ := hq
                go_wp2_with fail
                go_roundw
                case rel => exact ⟨k + 1, by go_num, by omega, by rw [HE.out], HFW⟩
                case measure => simp only [intOf]; omega
              · have HE : Hid (hd (sB.L.take (k + 1)) = hd (sB.L.take k)) := hide (by rw [HH.out, if_neg hq])
                by_cases hs1 : r.st = 1
                · have b2 : decide (r.st = 1) = true := decide_eq_true hs1
                  have hh : ¬ hd (sB.L.take k) = 0 := fun e => hq ⟨e, hs1⟩
                  have b3 : decide (hd (sB.L.take k) = 0) = false := decide_eq_false hh
                  go_wp2_with fail
                  go_roundw
                  case rel => exact ⟨k + 1, by go_num, by omega, by rw [HE.out], HFW⟩
                  case measure => simp only [intOf]; omega
                · have b2 : decide (r.st = 1) = false := decide_eq_false hs1
                  go_wp2_with fail
                  go_roundw
                  case rel => exact ⟨k + 1, by go_num, by omega, by rw [HE.out], HFW⟩
                  case measure => simp only [intOf]; omega
            · have b1 : decide (r.att = 0) = false := decide_eq_false hat
              go_upto_region 17 with fail
              by_cases hq : hd (sB.L.take k) = 0 ∧ r.st = 1
              · have b2 : decide (r.st = 1) = true := decide_eq_true hq.2
                have b3 : decide (hd (sB.L.take k) = 0) = true := decide_eq_true hq.1
                have HE : Hid (hd (sB.L.take (k + 1)) = (k : Int) + 1) := hide (by rw [HH.out, if_pos hq])
                obtain ⟨hq1, hq2⟩ := hq
                go_wp2_with fail
                go_roundw
                case rel => exact ⟨k + 1, by go_num, by omega, by rw [HE.out], HFW⟩
                case measure => simp only [intOf]; omega
              · have HE : Hid (hd (sB.L.take (k + 1)) = hd (sB.L.take k)) := hide (by rw [HH.out, if_neg hq])
                by_cases hs1 : r.st = 1
                · have b2 : decide (r.st = 1) = true := decide_eq_true hs1
                  have hh : ¬ hd (sB.L.take k) = 0 := fun e => hq ⟨e, hs1⟩
                  have b3 : decide (hd (sB.L.take k) = 0) = false := decide_eq_false hh
                  go_wp2_with fail
                  go_roundw
                  case rel => exact ⟨k + 1, by go_num, by omega, by rw [HE.out], HFW⟩
                  case measure => simp only [intOf]; omega
                · have b2 : decide (r.st = 1) = false := decide_eq_false hs1
                  go_wp2_with fail
                  go_roundw
                  case rel => exact ⟨k + 1, by go_num, by omega, by rw [HE.out], HFW⟩
                  case measure => simp only [intOf]; omega
          · rcases hfnd with ⟨hb0, h2, _⟩ | ⟨_, h3⟩
            rotate_left
            · exact absurd h3 hf1
            obtain rfl : k = j := (HIx.out j hjl hfe h2).symm
            have hTf := tx_own hof
            obtain ⟨pf, cf, rfl⟩ := own_slice hof
            rw [h2]
            simp only [HLp.out, HLn.out, plC, HJob.out]
            rw [HLn.out] at hTf
            have hba4 := below_alloc w4 (.cells #[.int .i64 ((k : Int) + 1), .int .i64 r.st, .int .i64 r.att, .int .i64 r.bdg, .int .i64 r.node, .int .i64 r.life, .int .i64 r.code, .int .u64 r.bits, .string pr, .slice pf nl cf] 48)
            have HPW := hide ((hba4.block _ (Nat.lt_of_lt_of_le (lt_of_block HPp.out) hb4.size)).trans ((hb4.block _ (lt_of_block HPp.out)).trans HPp.out))
            have HXW := hide ((hba4.block _ (Nat.lt_of_lt_of_le (lt_of_block HXp.out) hb4.size)).trans ((hb4.block _ (lt_of_block HXp.out)).trans HXp.out))
            have HBW := hide ((HBp.out.trans (hb4.mono HBp.out.size)).alloc (HBp.out.trans (hb4.mono HBp.out.size)).size (.cells #[.int .i64 ((k : Int) + 1), .int .i64 r.st, .int .i64 r.att, .int .i64 r.bdg, .int .i64 r.node, .int .i64 r.life, .int .i64 r.code, .int .u64 r.bits, .string pr, .slice pf nl cf] 48))
            have hnF := heap_alloc_new w4 (.cells #[.int .i64 ((k : Int) + 1), .int .i64 r.st, .int .i64 r.att, .int .i64 r.bdg, .int .i64 r.node, .int .i64 r.life, .int .i64 r.code, .int .u64 r.bits, .string pr, .slice pf nl cf] 48)
            obtain ⟨FX, hFX⟩ : ∃ FX, w4.heap.size = FX := ⟨_, rfl⟩
            rw [hFX] at hnF
            have HnF := hide hnF
            have hT1 := HT0.out.below HBW.out (Nat.le_refl _)
            rw [HLn.out] at hT1
            have HSm := hide (place_alike (r := r) (pr := pr) (hTf.below hba4 (Nat.le_refl _)) hT1 (by rw [HLn.out]; omega))
            simp only [plC] at HSm
            rw [HJob.out] at HSm
            have b0 : decide (0 < r.bdg) = true := decide_eq_true (by omega)
            clear hf1 hb4 hba4 HFd HPp HXp HBp HSp p3 hnF hTf hT1 hof h2 hfe hjl
            go_upto_region 15 with fail
            generalize w4.alloc _ = W at *
            have hPW := HPW.out
            have hFW0 := HnF.out
            have p0 : W.cell? ⟨P, 0, none⟩ = some (.int .i64 ((k : Int) + 1)) := by simp [World.cell?, hPW]
            have p1 : W.cell? ⟨P, 1, none⟩ = some (.int .i64 r.st) := by simp [World.cell?, hPW]
            have p2 : W.cell? ⟨P, 2, none⟩ = some (.int .i64 r.att) := by simp [World.cell?, hPW]
            have p3 : W.cell? ⟨P, 3, none⟩ = some (.int .i64 r.bdg) := by simp [World.cell?, hPW]
            have p4 : W.cell? ⟨P, 4, none⟩ = some (.int .i64 r.node) := by simp [World.cell?, hPW]
            have p5 : W.cell? ⟨P, 5, none⟩ = some (.int .i64 r.life) := by simp [World.cell?, hPW]
            have p6 : W.cell? ⟨P, 6, none⟩ = some (.int .i64 r.code) := by simp [World.cell?, hPW]
            have p7 : W.cell? ⟨P, 7, none⟩ = some (.int .u64 r.bits) := by simp [World.cell?, hPW]
            have p8 : W.cell? ⟨P, 8, none⟩ = some (.string pr) := by simp [World.cell?, hPW]
            have p9 : W.cell? ⟨P, 9, none⟩ = some (.slice pt nl ct) := by simp [World.cell?, hPW]
            have f0 : W.cell? ⟨FX, 0, none⟩ = some (.int .i64 ((k : Int) + 1)) := by simp [World.cell?, hFW0]
            have f1 : W.cell? ⟨FX, 1, none⟩ = some (.int .i64 r.st) := by simp [World.cell?, hFW0]
            have f2 : W.cell? ⟨FX, 2, none⟩ = some (.int .i64 r.att) := by simp [World.cell?, hFW0]
            have f3 : W.cell? ⟨FX, 3, none⟩ = some (.int .i64 r.bdg) := by simp [World.cell?, hFW0]
            have f4 : W.cell? ⟨FX, 4, none⟩ = some (.int .i64 r.node) := by simp [World.cell?, hFW0]
            have f5 : W.cell? ⟨FX, 5, none⟩ = some (.int .i64 r.life) := by simp [World.cell?, hFW0]
            have f6 : W.cell? ⟨FX, 6, none⟩ = some (.int .i64 r.code) := by simp [World.cell?, hFW0]
            have f7 : W.cell? ⟨FX, 7, none⟩ = some (.int .u64 r.bits) := by simp [World.cell?, hFW0]
            have f8 : W.cell? ⟨FX, 8, none⟩ = some (.string pr) := by simp [World.cell?, hFW0]
            have f9 : W.cell? ⟨FX, 9, none⟩ = some (.slice pf nl cf) := by simp [World.cell?, hFW0]
            clear hPW hFW0
            go_wp2_with fail
            refine HSm.out.mono ?_
            rintro e w6 ⟨rfl, hb6⟩
            have hPW6 := (hb6.block _ (lt_of_block HPW.out)).trans HPW.out
            have hXW6 := (hb6.block _ (lt_of_block HXW.out)).trans HXW.out
            have HFW := hide (HBW.out.trans (hb6.mono HBW.out.size))
            clear p0 p1 p2 p3 p4 p5 p6 p7 p8 p9 f0 f1 f2 f3 f4 f5 f6 f7 f8 f9
            have p0 : w6.cell? ⟨P, 0, none⟩ = some (.int .i64 ((k : Int) + 1)) := by simp [World.cell?, hPW6]
            have p1 : w6.cell? ⟨P, 1, none⟩ = some (.int .i64 r.st) := by simp [World.cell?, hPW6]
            have p2 : w6.cell? ⟨P, 2, none⟩ = some (.int .i64 r.att) := by simp [World.cell?, hPW6]
            have p3 : w6.cell? ⟨P, 3, none⟩ = some (.int .i64 r.bdg) := by simp [World.cell?, hPW6]
            have p4 : w6.cell? ⟨P, 4, none⟩ = some (.int .i64 r.node) := by simp [World.cell?, hPW6]
            have p5 : w6.cell? ⟨P, 5, none⟩ = some (.int .i64 r.life) := by simp [World.cell?, hPW6]
            have p6 : w6.cell? ⟨P, 6, none⟩ = some (.int .i64 r.code) := by simp [World.cell?, hPW6]
            have p7 : w6.cell? ⟨P, 7, none⟩ = some (.int .u64 r.bits) := by simp [World.cell?, hPW6]
            have p8 : w6.cell? ⟨P, 8, none⟩ = some (.string pr) := by simp [World.cell?, hPW6]
            have p9 : w6.cell? ⟨P, 9, none⟩ = some (.slice pt nl ct) := by simp [World.cell?, hPW6]
            have x0 : w6.cell? ⟨X, 0, none⟩ = some (.int .i64 sB.res) := by simp [World.cell?, hXW6]
            clear hPW6 hXW6 HPW HXW HBW hb6 HSm HnF
            by_cases hat : r.att = 0
            · have hnl0 : nl = 0 := HFr.out hat
              have b1 : decide (r.att = 0) = true := decide_eq_true hat
              have hz0 : ¬ ((0 : Int) < (nl : Int)) := by omega
              go_upto_region 17 with fail
              by_cases hq : hd (sB.L.take k) = 0 ∧ r.st = 1
              · have b2 : decide (r.st = 1) = true := decide_eq_true hq.2
                have b3 : decide (hd (sB.L.take k) = 0) = true := decide_eq_true hq.1
                have HE : Hid (hd (sB.L.take (k + 1)) = (k : Int) + 1) := hide (by rw [HH.out, if_pos hq])
                obtain ⟨hq1, hq2⟩ := hq
                go_wp2_with fail
                go_roundw
                case rel => exact ⟨k + 1, by go_num, by omega, by rw [HE.out], HFW⟩
                case measure => simp only [intOf]; omega
              · have HE : Hid (hd (sB.L.take (k + 1)) = hd (sB.L.take k)) := hide (by rw [HH.out, if_neg hq])
                by_cases hs1 : r.st = 1
                · have b2 : decide (r.st = 1) = true := decide_eq_true hs1
                  have hh : ¬ hd (sB.L.take k) = 0 := fun e => hq ⟨e, hs1⟩
                  have b3 : decide (hd (sB.L.take k) = 0) = false := decide_eq_false hh
                  go_wp2_with fail
                  go_roundw
                  case rel => exact ⟨k + 1, by go_num, by omega, by rw [HE.out], HFW⟩
                  case measure => simp only [intOf]; omega
                · have b2 : decide (r.st = 1) = false := decide_eq_false hs1
                  go_wp2_with fail
                  go_roundw
                  case rel => exact ⟨k + 1, by go_num, by omega, by rw [HE.out], HFW⟩
                  case measure => simp only [intOf]; omega
            · have b1 : decide (r.att = 0) = false := decide_eq_false hat
              go_upto_region 17 with fail
              by_cases hq : hd (sB.L.take k) = 0 ∧ r.st = 1
              · have b2 : decide (r.st = 1) = true := decide_eq_true hq.2
                have b3 : decide (hd (sB.L.take k) = 0) = true := decide_eq_true hq.1
                have HE : Hid (hd (sB.L.take (k + 1)) = (k : Int) + 1) := hide (by rw [HH.out, if_pos hq])
                obtain ⟨hq1, hq2⟩ := hq
                go_wp2_with fail
                go_roundw
                case rel => exact ⟨k + 1, by go_num, by omega, by rw [HE.out], HFW⟩
                case measure => simp only [intOf]; omega
              · have HE : Hid (hd (sB.L.take (k + 1)) = hd (sB.L.take k)) := hide (by rw [HH.out, if_neg hq])
                by_cases hs1 : r.st = 1
                · have b2 : decide (r.st = 1) = true := decide_eq_true hs1
                  have hh : ¬ hd (sB.L.take k) = 0 := fun e => hq ⟨e, hs1⟩
                  have b3 : decide (hd (sB.L.take k) = 0) = false := decide_eq_false hh
                  go_wp2_with fail
                  go_roundw
                  case rel => exact ⟨k + 1, by go_num, by omega, by rw [HE.out], HFW⟩
                  case measure => simp only [intOf]; omega
                · have b2 : decide (r.st = 1) = false := decide_eq_false hs1
                  go_wp2_with fail
                  go_roundw
                  case rel => exact ⟨k + 1, by go_num, by omega, by rw [HE.out], HFW⟩
                  case measure => simp only [intOf]; omega
        · obtain rfl : n = k := by omega
          have hki : ¬ ((n : Int) < (n : Int)) := by omega
          have hS := HS8.out.below HBv.out
          have HFz := hide (find_any hS HWB.out 0)
          have HXa := hide ((HBv.out.block X (lt_of_block HX8.out)).trans HX8.out)
          have HSa := hide hS
          have HBa := hide (HB8.out.trans (HBv.out.mono HB8.out.size))
          have hr1 := HWB.out.r1
          have hr0 := HWB.out.r0
          have HHd0 : Hid (hd (sB.L.take n) = hd sB.L) := hide (by rw [List.take_of_length_le (by rw [HNn.out]; exact Nat.le_refl _)])
          obtain ⟨HD, hHD⟩ : ∃ HD, hd sB.L = HD := ⟨_, rfl⟩
          have HHd : Hid (∀ V, Sd N V bA x sB → Calls Try.prog 17 #[.pointer (some ⟨bA, 0, none⟩)] V fun e w' => e = .returned (.int .i64 HD) ∧ Below V.heap.size V w') := hide fun V hV => by have := head_any hV HWB.out; rw [hHD] at this; exact this
          have e2 : hd (sB.L.take n) = HD := HHd0.out.trans hHD
          rw [e2]
          clear hS HS8 HX8 HBv hHD e2 HXv hXv
          go_wp2_with fail
          refine HFz.out.mono ?_
          rintro e w4 (⟨_, rfl, hb4⟩ | ⟨_, _, h1, _, _, _, _, _⟩)
          rotate_left
          · exact absurd (fnd_zero HWB.out) h1
          have hba4 := below_alloc w4 (.cells #[.int .i64 0, .int .i64 0, .int .i64 0, .int .i64 0, .int .i64 0, .int .i64 0, .int .i64 0, .int .u64 0, .string ⟨#[]⟩, .slice none 0 0] 48)
          have HSb := hide ((HSa.out.below hb4).below hba4)
          have HXb := hide ((hba4.block _ (Nat.lt_of_lt_of_le (lt_of_block HXa.out) hb4.size)).trans ((hb4.block _ (lt_of_block HXa.out)).trans HXa.out))
          have HBb := hide ((HBa.out.trans (hb4.mono HBa.out.size)).alloc (HBa.out.trans (hb4.mono HBa.out.size)).size (.cells #[.int .i64 0, .int .i64 0, .int .i64 0, .int .i64 0, .int .i64 0, .int .i64 0, .int .i64 0, .int .u64 0, .string ⟨#[]⟩, .slice none 0 0] 48))
          have HFa := hide (find_any HSb.out HWB.out (sB.res + 1))
          have y0 : (w4.alloc (.cells #[.int .i64 0, .int .i64 0, .int .i64 0, .int .i64 0, .int .i64 0, .int .i64 0, .int .i64 0, .int .u64 0, .string ⟨#[]⟩, .slice none 0 0] 48)).cell? ⟨X, 0, none⟩ = some (.int .i64 sB.res) := by simp only [World.cell?, HXb.out]; rfl
          have hw1 : IntKind.i64.wrap (sB.res + 1) = sB.res + 1 := by rw [IntKind.wrap_i64]; omega
          clear hb4 hba4 HSa HXa HBa HFz
          go_upto_region 20 with fail
          generalize w4.alloc _ = W4 at *
          go_wp2_with fail
          refine HFa.out.mono ?_
          rintro e w5 (⟨_, rfl, hb5⟩ | ⟨_, _, h1, _, _, _, _, _⟩)
          rotate_left
          · exact absurd (fnd_above HWB.out) h1
          have hba5 := below_alloc w5 (.cells #[.int .i64 0, .int .i64 0, .int .i64 0, .int .i64 0, .int .i64 0, .int .i64 0, .int .i64 0, .int .u64 0, .string ⟨#[]⟩, .slice none 0 0] 48)
          have HS9 := hide ((HSb.out.below hb5).below hba5)
          have HX9 := hide ((hba5.block _ (Nat.lt_of_lt_of_le (lt_of_block HXb.out) hb5.size)).trans ((hb5.block _ (lt_of_block HXb.out)).trans HXb.out))
          have HB9 := hide ((HBb.out.trans (hb5.mono HBb.out.size)).alloc (HBb.out.trans (hb5.mono HBb.out.size)).size (.cells #[.int .i64 0, .int .i64 0, .int .i64 0, .int .i64 0, .int .i64 0, .int .i64 0, .int .i64 0, .int .u64 0, .string ⟨#[]⟩, .slice none 0 0] 48))
          clear hb5 hba5 HSb HXb HBb HFa y0
          go_upto_region 21 with fail
          generalize w5.alloc _ = W5 at *
          have HCe : Hid (∀ w' : World, (fun w' => w'.heap[X]? = some (.cells #[.int .i64 sB.res, .slice pj n cj] 35 (0, 0)) ∧ Sd N w' bA x sB ∧ Below w.heap.size w w') w' → w'.cell? ⟨X, 0, none⟩ = some (.int .i64 sB.res)) := hide fun w' hw => by simp [World.cell?, hw.1]
          refine wp_region_held_drew (S := fun w' => w'.heap[X]? = some (.cells #[.int .i64 sB.res, .slice pj n cj] 35 (0, 0)) ∧ Sd N w' bA x sB ∧ Below w.heap.size w w') (by kernel_rfl) (⟨HX9.out, sd_drew HS9.out, HB9.out.drew⟩) (fun hHeld => ?_)
          refine wpAnyH_take (i := 0) (v := .pointer (some ⟨bA, 0, none⟩)) rfl (by kernel_rfl) (by kernel_rfl) (by kernel_rfl) (fun _ _ _ h => h) (Or.inl ⟨by kernel_rfl, fun w1 hSw => by clear hHeld; have k0 : _ := HCe.out _ hSw; go_simp⟩) hHeld ?_
          try simp only [Act.put]
          try simp only [List.getElem_toArray]
          try simp only [List.getElem_cons_succ]
          try simp only [List.getElem_cons_zero]
          try simp only [List.setIfInBounds_toArray]
          try simp only [List.set_cons_succ, List.set_cons_zero]
          refine wpAnyH_take (i := 2) (v := .int .i64 HD) rfl (by kernel_rfl) (by kernel_rfl) (by kernel_rfl) (fun _ _ _ h => h) (Or.inl ⟨by kernel_rfl, fun w1 hSw => by clear hHeld; have k0 : _ := HCe.out _ hSw; go_simp⟩) hHeld ?_
          try simp only [Act.put]
          try simp only [List.getElem_toArray]
          try simp only [List.getElem_cons_succ]
          try simp only [List.getElem_cons_zero]
          try simp only [List.setIfInBounds_toArray]
          try simp only [List.set_cons_succ, List.set_cons_zero]
          refine wpAnyH_ready (rs := [1]) (by kernel_rfl) (by simp) ?_
          refine AllReadyH.cons rfl (fun K hK => ?_) AllReadyH.nil
          go_simp
          refine (HHd.out _ hHeld.2.1).mono ?_
          rintro e V1 ⟨rfl, hb⟩
          have HS1 := hide (⟨(hb.block _ (lt_of_block hHeld.1)).trans hHeld.1, hHeld.2.1.below hb, hHeld.2.2.trans (hb.mono hHeld.2.2.size)⟩ : _ ∧ _ ∧ _)
          clear hb
          refine hK.out _ _ (HS1.out) (fun hHeld => ?_)
          clear hK K
          try simp only [Act.put]
          try simp only [List.getElem_toArray]
          try simp only [List.getElem_cons_succ]
          try simp only [List.getElem_cons_zero]
          try simp only [List.setIfInBounds_toArray]
          try simp only [List.set_cons_succ, List.set_cons_zero]
          refine wpAnyH_take (i := 3) (v := .bool false) rfl (by kernel_rfl) (by kernel_rfl) (by kernel_rfl) (fun _ _ _ h => h) (Or.inl ⟨by kernel_rfl, fun w1 hSw => by clear hHeld; have k0 : _ := HCe.out _ hSw; go_simp⟩) hHeld ?_
          try simp only [Act.put]
          try simp only [List.getElem_toArray]
          try simp only [List.getElem_cons_succ]
          try simp only [List.getElem_cons_zero]
          try simp only [List.setIfInBounds_toArray]
          try simp only [List.set_cons_succ, List.set_cons_zero]
          refine wpAnyH_take (i := 4) (v := .bool false) rfl (by kernel_rfl) (by kernel_rfl) (by kernel_rfl) (fun _ _ _ h => h) (Or.inl ⟨by kernel_rfl, fun w1 hSw => by clear hHeld; have k0 : _ := HCe.out _ hSw; go_simp⟩) hHeld ?_
          try simp only [Act.put]
          try simp only [List.getElem_toArray]
          try simp only [List.getElem_cons_succ]
          try simp only [List.getElem_cons_zero]
          try simp only [List.setIfInBounds_toArray]
          try simp only [List.set_cons_succ, List.set_cons_zero]
          refine wpAnyH_take (i := 5) (v := .pointer (some ⟨bA, 0, none⟩)) rfl (by kernel_rfl) (by kernel_rfl) (by kernel_rfl) (fun _ _ _ h => h) (Or.inl ⟨by kernel_rfl, fun w1 hSw => by clear hHeld; have k0 : _ := HCe.out _ hSw; go_simp⟩) hHeld ?_
          try simp only [Act.put]
          try simp only [List.getElem_toArray]
          try simp only [List.getElem_cons_succ]
          try simp only [List.getElem_cons_zero]
          try simp only [List.setIfInBounds_toArray]
          try simp only [List.set_cons_succ, List.set_cons_zero]
          refine wpAnyH_take (i := 7) (v := .pointer (some ⟨X, 0, none⟩)) rfl (by kernel_rfl) (by kernel_rfl) (by kernel_rfl) (fun _ _ _ h => h) (Or.inl ⟨by kernel_rfl, fun w1 hSw => by clear hHeld; have k0 : _ := HCe.out _ hSw; go_simp⟩) hHeld ?_
          try simp only [Act.put]
          try simp only [List.getElem_toArray]
          try simp only [List.getElem_cons_succ]
          try simp only [List.getElem_cons_zero]
          try simp only [List.setIfInBounds_toArray]
          try simp only [List.set_cons_succ, List.set_cons_zero]
          refine wpAnyH_take (i := 8) (v := .int .i64 sB.res) rfl (by kernel_rfl) (by kernel_rfl) (by kernel_rfl) (fun _ _ _ h => h) (Or.inl ⟨by kernel_rfl, fun w1 hSw => by clear hHeld; have k0 : _ := HCe.out _ hSw; go_simp⟩) hHeld ?_
          try simp only [Act.put]
          try simp only [List.getElem_toArray]
          try simp only [List.getElem_cons_succ]
          try simp only [List.getElem_cons_zero]
          try simp only [List.setIfInBounds_toArray]
          try simp only [List.set_cons_succ, List.set_cons_zero]
          refine wpAnyH_ready (rs := [6]) (by kernel_rfl) (by simp) ?_
          refine AllReadyH.cons rfl (fun K hK => ?_) AllReadyH.nil
          go_simp
          refine (reserved_any hHeld.2.1).mono ?_
          rintro e V2 ⟨rfl, rfl⟩
          have HS2 := hide hHeld
          refine hK.out _ _ (HS2.out) (fun hHeld => ?_)
          clear hK K
          try simp only [Act.put]
          try simp only [List.getElem_toArray]
          try simp only [List.getElem_cons_succ]
          try simp only [List.getElem_cons_zero]
          try simp only [List.setIfInBounds_toArray]
          try simp only [List.set_cons_succ, List.set_cons_zero]
          refine wpAnyH_take (i := 9) (v := .bool false) rfl (by kernel_rfl) (by kernel_rfl) (by kernel_rfl) (fun _ _ _ h => h) (Or.inl ⟨by kernel_rfl, fun w1 hSw => by clear hHeld; have k0 : _ := HCe.out _ hSw; go_simp⟩) hHeld ?_
          try simp only [Act.put]
          try simp only [List.getElem_toArray]
          try simp only [List.getElem_cons_succ]
          try simp only [List.getElem_cons_zero]
          try simp only [List.setIfInBounds_toArray]
          try simp only [List.set_cons_succ, List.set_cons_zero]
          refine wpAnyH_take (i := 10) (v := .bool false) rfl (by kernel_rfl) (by kernel_rfl) (by kernel_rfl) (fun _ _ _ h => h) (Or.inl ⟨by kernel_rfl, fun w1 hSw => by clear hHeld; have k0 : _ := HCe.out _ hSw; go_simp⟩) hHeld ?_
          try simp only [Act.put]
          try simp only [List.getElem_toArray]
          try simp only [List.getElem_cons_succ]
          try simp only [List.getElem_cons_zero]
          try simp only [List.setIfInBounds_toArray]
          try simp only [List.set_cons_succ, List.set_cons_zero]
          refine wpAnyH_take (i := 11) (v := .bool false) rfl (by kernel_rfl) (by kernel_rfl) (by kernel_rfl) (fun _ _ _ h => h) (Or.inl ⟨by kernel_rfl, fun w1 hSw => by clear hHeld; have k0 : _ := HCe.out _ hSw; go_simp⟩) hHeld ?_
          try simp only [Act.put]
          try simp only [List.getElem_toArray]
          try simp only [List.getElem_cons_succ]
          try simp only [List.getElem_cons_zero]
          try simp only [List.setIfInBounds_toArray]
          try simp only [List.set_cons_succ, List.set_cons_zero]
          refine wpAnyH_take (i := 12) (v := .bool false) rfl (by kernel_rfl) (by kernel_rfl) (by kernel_rfl) (fun _ _ _ h => h) (Or.inl ⟨by kernel_rfl, fun w1 hSw => by clear hHeld; have k0 : _ := HCe.out _ hSw; go_simp⟩) hHeld ?_
          try simp only [Act.put]
          try simp only [List.getElem_toArray]
          try simp only [List.getElem_cons_succ]
          try simp only [List.getElem_cons_zero]
          try simp only [List.setIfInBounds_toArray]
          try simp only [List.set_cons_succ, List.set_cons_zero]
          refine wpAnyH_take (i := 13) (v := .bool false) rfl (by kernel_rfl) (by kernel_rfl) (by kernel_rfl) (fun _ _ _ h => h) (Or.inl ⟨by kernel_rfl, fun w1 hSw => by clear hHeld; have k0 : _ := HCe.out _ hSw; go_simp⟩) hHeld ?_
          try simp only [Act.put]
          try simp only [List.getElem_toArray]
          try simp only [List.getElem_cons_succ]
          try simp only [List.getElem_cons_zero]
          try simp only [List.setIfInBounds_toArray]
          try simp only [List.set_cons_succ, List.set_cons_zero]
          refine wpAnyH_take (i := 14) (v := .bool false) rfl (by kernel_rfl) (by kernel_rfl) (by kernel_rfl) (fun _ _ _ h => h) (Or.inl ⟨by kernel_rfl, fun w1 hSw => by clear hHeld; have k0 : _ := HCe.out _ hSw; go_simp⟩) hHeld ?_
          try simp only [Act.put]
          try simp only [List.getElem_toArray]
          try simp only [List.getElem_cons_succ]
          try simp only [List.getElem_cons_zero]
          try simp only [List.setIfInBounds_toArray]
          try simp only [List.set_cons_succ, List.set_cons_zero]
          refine wpAnyH_take (i := 15) (v := .bool false) rfl (by kernel_rfl) (by kernel_rfl) (by kernel_rfl) (fun _ _ _ h => h) (Or.inl ⟨by kernel_rfl, fun w1 hSw => by clear hHeld; have k0 : _ := HCe.out _ hSw; go_simp⟩) hHeld ?_
          try simp only [Act.put]
          try simp only [List.getElem_toArray]
          try simp only [List.getElem_cons_succ]
          try simp only [List.getElem_cons_zero]
          try simp only [List.setIfInBounds_toArray]
          try simp only [List.set_cons_succ, List.set_cons_zero]
          refine wpAnyH_take (i := 16) (v := .bool false) rfl (by kernel_rfl) (by kernel_rfl) (by kernel_rfl) (fun _ _ _ h => h) (Or.inl ⟨by kernel_rfl, fun w1 hSw => by clear hHeld; have k0 : _ := HCe.out _ hSw; go_simp⟩) hHeld ?_
          try simp only [Act.put]
          try simp only [List.getElem_toArray]
          try simp only [List.getElem_cons_succ]
          try simp only [List.getElem_cons_zero]
          try simp only [List.setIfInBounds_toArray]
          try simp only [List.set_cons_succ, List.set_cons_zero]
          refine wpAnyH_done (by kernel_rfl) ?_ _
          have HSf := hide HS2.out.2.1
          have HBf := hide HS2.out.2.2
          clear HS2 HS1 hHeld HHd HCe HS9 HX9 HB9
          go_wp2_with fail
          go_roundw
          case rel => exact ⟨i + 1, sB, by go_num, by omega, HWB, HSf, HBf⟩
          case measure => simp only [intOf]; omega
    · obtain rfl : i = l.length := by omega
      have hii : ¬ ((l.length : Int) < (l.length : Int)) := by omega
      go_wp2_with fail
      refine (sfixed_any _).mono ?_
      rintro e w3 ⟨rfl, hb3⟩
      have HB3 := hide (HB.out.trans (hb3.mono HB.out.size))
      clear hb3 HB
      go_wp2_with fail
      go_ret
      exact ⟨rfl, HB3.out⟩
end Go.Proofs.Ytlajlggoakgmgaa.S
end
