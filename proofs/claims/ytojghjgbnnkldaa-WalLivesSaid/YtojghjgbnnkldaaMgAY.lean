import Derived.Test.YtojghjgbnnkldaaMgAX
import Derived.Deep.DeepCutAuto

section
namespace Go.Proofs.Ytojghjgbnnkldaa
open Go.RowKit Go.Shelf
open Wl (Hd WS Log)

theorem ConX.calm_left {d : D.DS} {ws : WS} {s : ByteArray} {l : List ByteArray} (h : ConX d ws s l) (sb : Bool) (r : ByteArray) (h0 : (cl sb d ws r).1 = 0) : (cl sb d ws r).2.1.left = 0 := by
  have hC := h.con
  have hg : ¬ (ws.gone = true ∨ d.dead = true) := by simp [hC.gone]; exact hC.live
  cases sb
  · have h2 : (Wl.append d ws r).1 = 0 := h0
    unfold Wl.append Wl.powered at h2
    rw [if_neg hg] at h2
    by_cases h1 : r.size < 1 ∨ 2048 < r.size
    · rw [if_pos h1] at h2; cases h2
    · rw [if_neg h1] at h2
      by_cases h3 : Wl.room d.S.length ws.h < r.size
      · rw [if_pos h3] at h2; cases h2
      · rw [if_neg h3] at h2
        by_cases h4 : 1099511627776 ≤ ws.h.num
        · rw [if_pos h4] at h2; cases h2
        · exact (h.append_calm (by omega) (by omega) (by omega) (by omega)).2.1.con.calm
  · have h2 : (Wl.snapshot d ws r).1 = 0 := h0
    unfold Wl.snapshot Wl.powered at h2
    rw [if_neg hg] at h2
    by_cases h1 : min 17000 (Wl.hb d.S.length) < r.size
    · rw [if_pos h1] at h2; cases h2
    · rw [if_neg h1] at h2
      by_cases h4 : 1099511627776 ≤ ws.h.num
      · rw [if_pos h4] at h2; cases h2
      · exact (h.snapshot_calm (by omega) (by omega)).2.1.con.calm
set_option maxHeartbeats 8000000 in
set_option maxRecDepth 8000 in
theorem lived_any {base : Nat} {w : World} {b : Nat} {F : Nat → Prop} {d : D.DS} {ws : WS} {s : ByteArray} {l : List ByteArray} (h : D.Dk base w b F d) (hX : ConX d ws s l) (hb0 : base ≤ w.heap.size)
    {aT aM : Option Addr} {cT tb tf cM mb mf : Nat} {T : List ByteArray} {M : List Int} {xn xb : Int} (hT : D.Rs w aT tb tf T) (hTb : 0 < T.length → tb < base) (hM : Ri w aM mb mf M) (hMb : 0 < M.length → mb < base) (hTl : T.length ≤ 4611686018427387904) (hMl : M.length ≤ 4611686018427387904) (hTs : ∀ i (h : i < T.length), T[i].size ≤ 140737488351232) (hbn : -9223372036854775808 ≤ xn ∧ xn ≤ 9223372036854775807) (hbb : -9223372036854775808 ≤ xb ∧ xb ≤ 9223372036854775807) :
    Calls Try.prog 10 #[.pointer (some ⟨b, 0, none⟩), .agg #[.slice aT T.length cT, .slice aM M.length cM, .int .i64 xn, .int .i64 xb]] w fun e w' => e = .returned (.bool true) ∧ Below base w w' ∧ ∃ F' d' ws' s' l', D.Dk base w' b F' d' ∧ ConX d' ws' s' l' := by
  obtain ⟨o, ho⟩ : ∃ o, Obj.cells #[.slice aT T.length cT, .slice aM M.length cM, .int .i64 xn, .int .i64 xb] 33 (0, 0) = o := ⟨_, rfl⟩
  have HO := hide ho
  obtain ⟨X, hXs⟩ : ∃ X, w.heap.size = X := ⟨_, rfl⟩
  have HLC : Hid (∀ V : World, V.heap[X]? = some o → X < V.heap.size ∧ V.cell? ⟨X, 0, none⟩ = some (.slice aT T.length cT) ∧ V.cell? ⟨X, 1, none⟩ = some (.slice aM M.length cM) ∧ V.cell? ⟨X, 2, none⟩ = some (.int .i64 xn) ∧ V.cell? ⟨X, 3, none⟩ = some (.int .i64 xb)) := hide fun V hV => by
    have := lt_of_block hV
    rw [← ho] at hV; exact ⟨this, life_cells9 hV⟩
  clear ho
  have HOp := hide (open_any (h.below (below_alloc w o)))
  have HXs := hide hXs
  have HD := hide h
  have HX0 := hide hX
  have HT := hide hT
  have HTb := hide hTb
  have HM := hide hM
  have HMb := hide hMb
  have HTs := hide hTs
  have hN := hbn
  have HBN := hide hbn
  have HBB := hide hbb
  clear h hX hT hTb hM hMb hTs hbn hbb
  go_enter Try.func10, Try.ntmps10
  go_wp2_with fail
  rw [HO.out]
  try rw [hXs]
  clear hXs
  refine HOp.out.mono ?_
  intro e w1 hP
  obtain ⟨hb1, W, ad1, cp1, rfl, hV, hVm, hown, -⟩ := HX0.out.con.opens hP
  rw [HX0.out.ws] at hVm
  have HK0 : Hid (Lv base w X o b W F d ws (.slice ad1 l.length cp1) l w1) := hide (by
    have hs := World.size_alloc w o
    have hbB : Below base w (w.alloc o) := (below_alloc w o).mono hb0
    exact ⟨(HD.out.below (below_alloc w o)).below hb1, hVm, fun k => by have := (HD.out.ftlt _ k).2; omega, by omega, own_lo9 hown (by omega), (hb1.block _ (by rw [hs, ← HXs.out]; omega)).trans (by rw [← HXs.out]; exact heap_alloc_new w o), fun k => by have := (HD.out.ftlt _ k).2; have := HXs.out; omega, by have := HXs.out; omega, hbB.trans (hb1.mono (by omega))⟩)
  have HC0 : Hid (ConX d.revive ws s l ∧ d.dead = false ∧ (0 < T.length → d.left = 0)) := hide ⟨by rw [revive_calm HX0.out.con.live HX0.out.con.calm]; exact HX0.out, HX0.out.con.live, fun _ => HX0.out.con.calm⟩
  clear hP hb1 hV hVm hown HOp HD HX0
  go_wp2_with fail
  go_loopw [6, 7, 9] (fun u6 u7 u9 wr => ∃ (i : Nat) (s : ByteArray) (l : List ByteArray) (d : D.DS) (ws : WS) (F : Nat → Prop) (adl : Option Addr) (cpl : Nat), u6 = .string s ∧ u7 = .slice adl l.length cpl ∧ i ≤ T.length ∧ u9 = .int .i64 (i : Int) ∧ Hid (Lv base w X o b W F d ws (.slice adl l.length cpl) l wr) ∧ Hid (ConX d.revive ws s l ∧ d.dead = false ∧ (i < T.length → d.left = 0))) (fun _ _ t _ => T.length - (intOf t).toNat)
  case atStart => exact ⟨0, s, l, d, ws, F, ad1, cp1, rfl, rfl, Nat.zero_le _, rfl, HK0, HC0⟩
  case round =>
    clear HK0 HC0
    obtain ⟨i, s, l, d, ws, F, adl, cpl, rfl, rfl, hi, rfl, HK, HC⟩ := hrel
    obtain ⟨hXl, x0, x1, x2, x3⟩ := HLC.out wr HK.out.hx
    by_cases hil : i < T.length
    · have hii : (i : Int) < (T.length : Int) := by omega
      have HX : Hid (ConX d ws s l) := hide (by have := HC.out.1; rw [revive_calm HC.out.2.1 (HC.out.2.2 hil)] at this; exact this)
      clear HC
      have hat := HT.out.at_ (by omega)
      subst hat
      have HTc : Hid (∀ V, Below base w V → tb < V.heap.size ∧ V.cell? ⟨tb, tf + i, none⟩ = some (.string T[i])) := hide fun V hV => ⟨by have := hV.size; have := HTb.out (by omega); omega, (hV.cell (p := ⟨tb, tf + i, none⟩) (HTb.out (by omega))).trans (HT.out.cell i hil)⟩
      have HRz := hide (HTs.out i hil)
      generalize T[i] = r at *
      go_upto_region 7 with fail
      go_cut [10] (fun u10 wc => ∃ (sb : Bool) (n : Nat), u10 = .bool sb ∧ wc = wr.drewN n)
      case first =>
        by_cases hM0 : 0 < M.length
        · have hmat := HM.out.at_ hM0
          subst hmat
          have hMl' : mb < base := HMb.out hM0
          have hMw : mb < wr.heap.size := by have := HK.out.bel.size; omega
          have hmx : max (1 : Int) (M.length : Int) = (M.length : Int) := by omega
          have hq : i % M.length < M.length := Nat.mod_lt _ hM0
          have htm := tmod_nat i M.length hM0
          have y1 : wr.cell? ⟨mb, mf + i % M.length, none⟩ = some (.int .i64 M[i % M.length]) := (HK.out.bel.cell (p := ⟨mb, mf + i % M.length, none⟩) hMl').trans (HM.out.cell _ hq)
          generalize M[i % M.length] = mk at *
          generalize i % M.length = q at *
          have hqi : (q : Int) < (M.length : Int) := by omega
          have hm0 : (M.length : Int) ≠ 0 := by omega
          have hm1 : (M.length : Int) ≠ -1 := by omega
          go_quiet (fail)
          go_wp2_with fail
          go_meet
          case rel => exact ⟨mk == 1, _, rfl, rfl⟩
        · have hM1 : ¬ 0 < (M.length : Int) := by omega
          go_quiet (fail)
          go_wp2_with fail
          go_meet
          case rel => exact ⟨false, _, rfl, rfl⟩
      case rest =>
        obtain ⟨sb, n7, rfl, hwc⟩ := hcut
        have HK2 : Hid (Lv base w X o b W F d ws (.slice adl l.length cpl) l wc) := hide (by rw [hwc]; exact HK.out.below hb0 (D.below_drewN wr n7))
        clear hwc HK x0 x1 x2 x3 hXl
        obtain ⟨hXl, x0, x1, x2, x3⟩ := HLC.out wc HK2.out.hx
        obtain ⟨hTl2, t2⟩ := HTc.out wc HK2.out.bel
        obtain ⟨rb, hrs⟩ := (D.Rs.own HK2.out.ol).2
        have HBh := hide (behind_any (cap := cpl) hrs (by rw [← HX.out.con.rc]; exact HX.out.con.wok.rc) s r sb)
        clear hrs
        go_wp2_with fail
        refine HBh.out.mono ?_
        rintro e w3 ⟨adm, cpm, rfl, hom, hb3⟩
        have hB2 := Nat.le_trans hb0 HK2.out.bel.size
        have HM3 := hide (own_lo9 hom hB2)
        have HK3 := hide (HK2.out.below hb0 hb3)
        clear hom hb3 HBh HK2 x0 x1 x2 x3 hXl t2 hTl2
        go_wp2_with fail
        refine (D.forget_any HK3.out.dk).mono ?_
        rintro e w4 ⟨rfl, F4, hd4, hm4⟩
        have HM4 : Hid (w4.ownsRow base 9 1 (.slice adm (lB sb l r).length cpm) (lB sb l r).length ((lB sb l r).map .string)) := hide (own_kp HM3.out fun k hk => by
          obtain ⟨cs, hc⟩ := own_blk HM3.out hk
          exact hm4.block k (HM3.out.lt k hk).2 (dk_str HK3.out.dk hc))
        have HK4 := hide (HK3.out.mvd hb0 hd4 hm4)
        have HX4 := hide (forget_conx HX.out)
        clear hd4 hm4 HK3 HM3 HX
        obtain ⟨d0, hd0⟩ : ∃ d0, d.forget = d0 := ⟨_, rfl⟩
        have HR0 : Hid (d0.R.length = 0) := hide (by rw [← hd0]; rfl)
        rw [hd0] at HK4 HX4
        clear hd0
        obtain ⟨hXl, x0, x1, x2, x3⟩ := HLC.out w4 HK4.out.hx
        have hlw : IntKind.i64.wrap ((T.length : Int) - 1) = (T.length : Int) - 1 := by rw [IntKind.wrap_i64]; omega
        obtain ⟨lst, hlst⟩ : ∃ lst, ((i : Int) == (T.length : Int) - 1) = lst := ⟨_, rfl⟩
        have HLs : Hid (lst = true → i + 1 = T.length) := hide (by rintro rfl; have := of_decide_eq_true hlst; omega)
        go_wp2_with fail
        refine (D.clone_any HK4.out.dk (by rw [HR0.out]; decide)).mono ?_
        rintro e w5 ⟨bw, G, rfl, hd5, hb5⟩
        have HK5 := hide (Lc.of HK4.out hb0 HM4.out hd5 hb5)
        clear hd5 hb5 HK4 HM4 x0 x1 x2 x3 hXl
        clear hlw hlst
        obtain ⟨hXl, x0, x1, x2, x3⟩ := HLC.out w5 HK5.out.lv.hx
        have hq : pl xb 129 < 129 := pl_lt (by decide)
        have HP2 : Hid (∀ V, Calls Try.prog 24 #[.int .i64 xb, .int .i64 129] V fun e w' => e = .returned (.int .i64 (pl xb 129 : Int)) ∧ w' = V) := hide fun V => place9_any (m := 129) (by decide) (by decide) HBB.out
        generalize pl xb 129 = pb at *
        go_upto_region 12 with fail
        go_cut [93] (fun u93 wc => ∃ (n : Nat) (B : Int), u93 = .bool false ∧ n ≤ 9223372036854775807 ∧ 0 ≤ B ∧ B ≤ 128 ∧ ((n = 0 ∧ B = d0.byt) ∨ (B = (pb : Int) ∧ i + 1 = T.length)) ∧ Hid (Lc base w X o b W bw F4 G (armed d0 n B) d0 ws (.slice adl l.length cpl) (.slice adm (lB sb l r).length cpm) l (lB sb l r) wc))
        case first =>
          have HK6 : Hid (∀ k, Lc base w X o b W bw F4 G (armed d0 0 d0.byt) d0 ws (.slice adl l.length cpl) (.slice adm (lB sb l r).length cpm) l (lB sb l r) (w5.drewN k)) := hide fun k => by
            rw [armed_self HX4.out.con.calm]; exact HK5.out.below hb0 (D.below_drewN w5 k)
          have hb3 := HX4.out.con.ok.b0
          have hb4 := HX4.out.con.ok.b1
          cases lst with
          | false =>
            go_quiet (fail)
            go_wp2_with fail
            go_meet
            case rel => exact ⟨0, d0.byt, rfl, by decide, hb3, hb4, .inl ⟨rfl, rfl⟩, hide (HK6.out _)⟩
          | true =>
            by_cases hxn : 0 < xn
            · obtain ⟨n, hn⟩ : ∃ n : Nat, xn = (n : Int) := ⟨xn.toNat, by omega⟩
              have hn1 : n ≤ 9223372036854775807 := by omega
              have HArm : Hid (Calls Try.prog 23 #[.pointer (some ⟨b, 0, none⟩), .int .i64 xn, .int .i64 (pb : Int)] w5.drew fun e w' => e = .returned (.int .i64 0) ∧ D.Dk base w' b F4 (armed d0 n (pb : Int)) ∧ D.Mv F4 F4 w5.drew w') := hide (by
                have := D.arm_any (n := xn) (m := (pb : Int)) (HK5.out.below hb0 (D.below_drewN w5 1)).lv.dk (by omega)
                rw [hn, arm_eq HX4.out.con.live (by omega) (by omega)] at this
                rw [hn]
                exact this)
              have HNn := hide hn1
              clear hn hn1 hN hb3 hb4 HK6 x0 x1 x2 x3 hXl
              refine wp_region_held_drew (S := fun w' => w'.heap[X]? = some o) (by kernel_rfl) (HK5.out.lv.hx) (fun hHeld => ?_)
              refine wpAnyH_take (i := 0) (v := .bool true) rfl (by kernel_rfl) (by kernel_rfl) (by kernel_rfl) (fun _ _ _ h => h) (Or.inl ⟨by kernel_rfl, fun w1 hSw => by clear hHeld; obtain ⟨hXl, x0, x1, x2, x3⟩ := HLC.out _ hSw; go_simp⟩) hHeld ?_
              try simp only [Act.put]
              try simp only [List.getElem_toArray]
              try simp only [List.getElem_cons_succ]
              try simp only [List.getElem_cons_zero]
              try simp only [List.setIfInBounds_toArray]
              try simp only [List.set_cons_succ, List.set_cons_zero]
              refine wpAnyH_take (i := 1) (v := .bool true) rfl (by kernel_rfl) (by kernel_rfl) (by kernel_rfl) (fun _ _ _ h => h) (Or.inl ⟨by kernel_rfl, fun w1 hSw => by clear hHeld; obtain ⟨hXl, x0, x1, x2, x3⟩ := HLC.out _ hSw; go_simp⟩) hHeld ?_
              try simp only [Act.put]
              try simp only [List.getElem_toArray]
              try simp only [List.getElem_cons_succ]
              try simp only [List.getElem_cons_zero]
              try simp only [List.setIfInBounds_toArray]
              try simp only [List.set_cons_succ, List.set_cons_zero]
              refine wpAnyH_take (i := 2) (v := .pointer (some ⟨X, 2, none⟩)) rfl (by kernel_rfl) (by kernel_rfl) (by kernel_rfl) (fun _ _ _ h => h) (Or.inl ⟨by kernel_rfl, fun w1 hSw => by clear hHeld; obtain ⟨hXl, x0, x1, x2, x3⟩ := HLC.out _ hSw; go_simp⟩) hHeld ?_
              try simp only [Act.put]
              try simp only [List.getElem_toArray]
              try simp only [List.getElem_cons_succ]
              try simp only [List.getElem_cons_zero]
              try simp only [List.setIfInBounds_toArray]
              try simp only [List.set_cons_succ, List.set_cons_zero]
              refine wpAnyH_take (i := 3) (v := .int .i64 xn) rfl (by kernel_rfl) (by kernel_rfl) (by kernel_rfl) (fun _ _ _ h => h) (Or.inl ⟨by kernel_rfl, fun w1 hSw => by clear hHeld; obtain ⟨hXl, x0, x1, x2, x3⟩ := HLC.out _ hSw; go_simp⟩) hHeld ?_
              try simp only [Act.put]
              try simp only [List.getElem_toArray]
              try simp only [List.getElem_cons_succ]
              try simp only [List.getElem_cons_zero]
              try simp only [List.setIfInBounds_toArray]
              try simp only [List.set_cons_succ, List.set_cons_zero]
              refine wpAnyH_take (i := 4) (v := .bool true) rfl (by kernel_rfl) (by kernel_rfl) (by kernel_rfl) (fun _ _ _ h => h) (Or.inl ⟨by kernel_rfl, fun w1 hSw => by clear hHeld; obtain ⟨hXl, x0, x1, x2, x3⟩ := HLC.out _ hSw; go_simp⟩) hHeld ?_
              try simp only [Act.put]
              try simp only [List.getElem_toArray]
              try simp only [List.getElem_cons_succ]
              try simp only [List.getElem_cons_zero]
              try simp only [List.setIfInBounds_toArray]
              try simp only [List.set_cons_succ, List.set_cons_zero]
              refine wpAnyH_take (i := 5) (v := .bool true) rfl (by kernel_rfl) (by kernel_rfl) (by kernel_rfl) (fun _ _ _ h => h) (Or.inl ⟨by kernel_rfl, fun w1 hSw => by clear hHeld; obtain ⟨hXl, x0, x1, x2, x3⟩ := HLC.out _ hSw; go_simp⟩) hHeld ?_
              try simp only [Act.put]
              try simp only [List.getElem_toArray]
              try simp only [List.getElem_cons_succ]
              try simp only [List.getElem_cons_zero]
              try simp only [List.setIfInBounds_toArray]
              try simp only [List.set_cons_succ, List.set_cons_zero]
              refine wpAnyH_take (i := 6) (v := .bool true) rfl (by kernel_rfl) (by kernel_rfl) (by kernel_rfl) (fun _ _ _ h => h) (Or.inl ⟨by kernel_rfl, fun w1 hSw => by clear hHeld; obtain ⟨hXl, x0, x1, x2, x3⟩ := HLC.out _ hSw; go_simp⟩) hHeld ?_
              try simp only [Act.put]
              try simp only [List.getElem_toArray]
              try simp only [List.getElem_cons_succ]
              try simp only [List.getElem_cons_zero]
              try simp only [List.setIfInBounds_toArray]
              try simp only [List.set_cons_succ, List.set_cons_zero]
              refine wpAnyH_take (i := 7) (v := .pointer (some ⟨b, 0, none⟩)) rfl (by kernel_rfl) (by kernel_rfl) (by kernel_rfl) (fun _ _ _ h => h) (Or.inl ⟨by kernel_rfl, fun w1 hSw => by clear hHeld; obtain ⟨hXl, x0, x1, x2, x3⟩ := HLC.out _ hSw; go_simp⟩) hHeld ?_
              try simp only [Act.put]
              try simp only [List.getElem_toArray]
              try simp only [List.getElem_cons_succ]
              try simp only [List.getElem_cons_zero]
              try simp only [List.setIfInBounds_toArray]
              try simp only [List.set_cons_succ, List.set_cons_zero]
              refine wpAnyH_take (i := 8) (v := .pointer (some ⟨X, 2, none⟩)) rfl (by kernel_rfl) (by kernel_rfl) (by kernel_rfl) (fun _ _ _ h => h) (Or.inl ⟨by kernel_rfl, fun w1 hSw => by clear hHeld; obtain ⟨hXl, x0, x1, x2, x3⟩ := HLC.out _ hSw; go_simp⟩) hHeld ?_
              try simp only [Act.put]
              try simp only [List.getElem_toArray]
              try simp only [List.getElem_cons_succ]
              try simp only [List.getElem_cons_zero]
              try simp only [List.setIfInBounds_toArray]
              try simp only [List.set_cons_succ, List.set_cons_zero]
              refine wpAnyH_take (i := 9) (v := .int .i64 xn) rfl (by kernel_rfl) (by kernel_rfl) (by kernel_rfl) (fun _ _ _ h => h) (Or.inl ⟨by kernel_rfl, fun w1 hSw => by clear hHeld; obtain ⟨hXl, x0, x1, x2, x3⟩ := HLC.out _ hSw; go_simp⟩) hHeld ?_
              try simp only [Act.put]
              try simp only [List.getElem_toArray]
              try simp only [List.getElem_cons_succ]
              try simp only [List.getElem_cons_zero]
              try simp only [List.setIfInBounds_toArray]
              try simp only [List.set_cons_succ, List.set_cons_zero]
              refine wpAnyH_take (i := 10) (v := .pointer (some ⟨X, 3, none⟩)) rfl (by kernel_rfl) (by kernel_rfl) (by kernel_rfl) (fun _ _ _ h => h) (Or.inl ⟨by kernel_rfl, fun w1 hSw => by clear hHeld; obtain ⟨hXl, x0, x1, x2, x3⟩ := HLC.out _ hSw; go_simp⟩) hHeld ?_
              try simp only [Act.put]
              try simp only [List.getElem_toArray]
              try simp only [List.getElem_cons_succ]
              try simp only [List.getElem_cons_zero]
              try simp only [List.setIfInBounds_toArray]
              try simp only [List.set_cons_succ, List.set_cons_zero]
              refine wpAnyH_take (i := 11) (v := .int .i64 xb) rfl (by kernel_rfl) (by kernel_rfl) (by kernel_rfl) (fun _ _ _ h => h) (Or.inl ⟨by kernel_rfl, fun w1 hSw => by clear hHeld; obtain ⟨hXl, x0, x1, x2, x3⟩ := HLC.out _ hSw; go_simp⟩) hHeld ?_
              try simp only [Act.put]
              try simp only [List.getElem_toArray]
              try simp only [List.getElem_cons_succ]
              try simp only [List.getElem_cons_zero]
              try simp only [List.setIfInBounds_toArray]
              try simp only [List.set_cons_succ, List.set_cons_zero]
              refine wpAnyH_ready (rs := [12]) (by kernel_rfl) (by simp) ?_
              refine AllReadyH.cons rfl (fun K hK => ?_) AllReadyH.nil
              go_simp
              refine (HP2.out _).mono ?_
              rintro e w6 ⟨rfl, rfl⟩
              refine hK.out _ _ (hHeld) (fun hHeld => ?_)
              clear hK K
              try simp only [Act.put]
              try simp only [List.getElem_toArray]
              try simp only [List.getElem_cons_succ]
              try simp only [List.getElem_cons_zero]
              try simp only [List.setIfInBounds_toArray]
              try simp only [List.set_cons_succ, List.set_cons_zero]
              refine wpAnyH_ready (rs := [13]) (by kernel_rfl) (by simp) ?_
              refine AllReadyH.cons rfl (fun K hK => ?_) AllReadyH.nil
              go_simp
              refine HArm.out.mono ?_
              rintro e w7 ⟨rfl, hD7, hM7⟩
              have HK7 := hide ((HK5.out.below hb0 (D.below_drewN w5 1)).arm hb0 hD7 hM7)
              have hs7 := HK7.out.lv.hx
              clear hD7 hM7 HArm HK5
              refine hK.out _ _ (hs7) (fun hHeld => ?_)
              clear hK K
              try simp only [Act.put]
              try simp only [List.getElem_toArray]
              try simp only [List.getElem_cons_succ]
              try simp only [List.getElem_cons_zero]
              try simp only [List.setIfInBounds_toArray]
              try simp only [List.set_cons_succ, List.set_cons_zero]
              refine wpAnyH_take (i := 14) (v := .bool false) rfl (by kernel_rfl) (by kernel_rfl) (by kernel_rfl) (fun _ _ _ h => h) (Or.inl ⟨by kernel_rfl, fun w1 hSw => by clear hHeld; obtain ⟨hXl, x0, x1, x2, x3⟩ := HLC.out _ hSw; go_simp⟩) hHeld ?_
              try simp only [Act.put]
              try simp only [List.getElem_toArray]
              try simp only [List.getElem_cons_succ]
              try simp only [List.getElem_cons_zero]
              try simp only [List.setIfInBounds_toArray]
              try simp only [List.set_cons_succ, List.set_cons_zero]
              refine wpAnyH_take (i := 15) (v := .bool false) rfl (by kernel_rfl) (by kernel_rfl) (by kernel_rfl) (fun _ _ _ h => h) (Or.inl ⟨by kernel_rfl, fun w1 hSw => by clear hHeld; obtain ⟨hXl, x0, x1, x2, x3⟩ := HLC.out _ hSw; go_simp⟩) hHeld ?_
              try simp only [Act.put]
              try simp only [List.getElem_toArray]
              try simp only [List.getElem_cons_succ]
              try simp only [List.getElem_cons_zero]
              try simp only [List.setIfInBounds_toArray]
              try simp only [List.set_cons_succ, List.set_cons_zero]
              refine wpAnyH_done (by kernel_rfl) ?_ _
              clear hHeld
              go_wp2_with fail
              go_meet
              case rel => exact ⟨n, (pb : Int), rfl, HNn.out, by omega, by omega, .inr ⟨rfl, by first | exact HLs.out rfl | exact HLs.out trivial⟩, HK7⟩
            · have hx1 : decide (0 < xn) = false := decide_eq_false hxn
              go_quiet (fail)
              go_wp2_with fail
              go_meet
              case rel => exact ⟨0, d0.byt, rfl, by decide, hb3, hb4, .inl ⟨rfl, rfl⟩, hide (HK6.out _)⟩
        case rest =>
          clear HK5 x0 x1 x2 x3 hXl
          obtain ⟨n, B, rfl, hn, hB0, hB1, hor, HK6⟩ := hcut
          obtain ⟨hXl, x0, x1, x2, x3⟩ := HLC.out wc HK6.out.lv.hx
          obtain ⟨hTl2, t2⟩ := HTc.out wc HK6.out.lv.bel
          have HOr := hide hor
          clear hor
          cases sb with
          | false =>
            have HE : Hid (Ends d0 ws (wB false ws r) s (sB false s r) l (lB false l r) (kB false d0 ws r) n B (Wl.append (armed d0 n B) ws r) ∧ (Wl.append (armed d0 n B) ws r).2.1.R.length ≤ d0.R.length + 600) := hide (HX4.out.calls false r hn hB0 hB1)
            have HWh : Hid ((Wl.append (armed d0 n B) ws r).1 = 2 → (cl false d0 ws r).1 = 0 ∧ (cl false d0 ws r).2.1.R.length = d0.R.length + (kB false d0 ws r + 1) ∧ (cl false d0 ws r).2.1.R.length ≤ d0.R.length + 600) := hide fun h2 => HX4.out.wholes false r h2
            have HL0 : Hid ((Wl.append (armed d0 n B) ws r).1 = 0 → i + 1 < T.length → (Wl.append (armed d0 n B) ws r).2.1.left = 0) := hide fun h0 hlt => by
              rcases HOr.out with ⟨rfl, rfl⟩ | h
              · rw [armed_self HX4.out.con.calm] at h0 ⊢
                exact HX4.out.calm_left false r h0
              · omega
            have HA := hide (append_any HK6.out.lv.dk HK6.out.lv.wm HK6.out.lv.nf (ok_armed HX4.out.con.wok n B) (by show (d0.R.length + 600) * 24 ≤ _; rw [HR0.out]; decide) r)
            generalize Wl.append (armed d0 n B) ws r = Y at *
            obtain ⟨ye, yd, yw⟩ := Y
            simp only at HE HWh HA HL0
            go_wp2_with fail
            refine HA.out.mono ?_
            rintro e w7 ⟨rfl, hw7, F7, hd7, hm7, nf7⟩
            have HK7 := hide (HK6.out.mv hb0 hd7 hw7 nf7 hm7)
            clear hw7 hd7 hm7 nf7 HA HK6 x0 x1 x2 x3 hXl t2 hTl2
            obtain ⟨hXl, x0, x1, x2, x3⟩ := HLC.out w7 HK7.out.lv.hx
            by_cases h2 : ye = 2
            · subst h2
              obtain ⟨ws', s', l', hDn⟩ := dn_of HE.out.1 rfl HR0.out
              have hBp : B = (pb : Int) := by
                rcases HOr.out with h | h
                · exfalso
                  cases HE.out.1 with
                  | no _ k => exact k rfl
                  | yes k => cases k
                  | last _ k => omega
                  | cut _ k => omega
                · exact h.1
              obtain ⟨v0, v1, v2⟩ := HWh.out rfl
              have HV := hide (And.intro v0 (And.intro (show (cl false d0 ws r).2.1.R.length = kB false d0 ws r + 1 by rw [v1, HR0.out]; omega) (And.intro (show kB false d0 ws r + 1 ≤ 600 by have := HR0.out; omega) (show yd.R.length ≤ 600 by have := HE.out.2; have := HR0.out; omega))))
              have HDn := hide hDn
              subst hBp
              clear v0 v1 v2 hDn HE HWh HOr HL0
              go_wp2_with fail
              refine (HP2.out _).mono ?_
              rintro e w8 ⟨rfl, rfl⟩
              have hB7 : base ≤ w8.heap.size := Nat.le_trans hb0 HK7.out.lv.bel.size
              have HCt := hide (cut_any9 false HK7.out.cu HX4.out HR0.out HDn.out HV.out.1 HV.out.2.1 HV.out.2.2.1 HV.out.2.2.2 HRz.out hB7)
              go_wp2_with fail
              refine HCt.out.mono ?_
              rintro e w9 ⟨rfl, ⟨F9, hd9⟩, hb9⟩
              have HE9 : Hid (Below base w w9 ∧ D.Dk base w9 b F9 yd.revive ∧ ConX yd.revive ws' s' l') := hide ⟨HK7.out.lv.bel.trans hb9, hd9, HDn.out.con⟩
              clear hd9 hb9 HCt HK7 HDn HV x0 x1 x2 x3 hXl
              go_wp2_with fail
              go_ret
              exact ⟨rfl, HE9.out.1, _, _, _, _, _, HE9.out.2⟩
            · have y2 : (ye == 2) = false := by simpa using h2
              by_cases h0 : ye = 0
              · subst h0
                have hyes : yd.dead = false ∧ yw = wB false ws r ∧ ConX yd.revive (wB false ws r) (sB false s r) (lB false l r) := by
                  cases HE.out.1 with
                  | no k => exact absurd rfl k
                  | yes _ _ hd hw _ hC => exact ⟨hd, hw, hC⟩
                  | last k => cases k
                  | cut k => cases k
                have HY := hide hyes
                have HK8 : Hid (Lv base w X o b W F7 yd yw (.slice adm (lB false l r).length cpm) (lB false l r) w7) := hide (HK7.out.lv.told HK7.out.om)
                have HLf : Hid (i + 1 < T.length → yd.left = 0) := hide (HL0.out rfl)
                clear hyes HK7 HE HWh HL0
                go_wp2_with fail
                refine (told_any HK8.out.dk (by have := HY.out.2.2; rw [← HY.out.2.1] at this; exact this) HY.out.1).mono ?_
                rintro e w8 ⟨adt, cpt, rfl, hot, hb8⟩
                have hB7 : base ≤ w7.heap.size := Nat.le_trans hb0 HK8.out.bel.size
                have HT8 := hide (own_lo9 hot hB7)
                have HK9 := hide (HK8.out.below hb0 hb8)
                have HSm := hide (same_own HT8.out HK9.out.ol rfl rfl rfl rfl (by have := HY.out.2.2.con; have h5 := this.wok.rc; rw [this.rc] at h5; omega))
                clear hot hb8 HK8 HT8 x0 x1 x2 x3 hXl
                go_wp2_with fail
                refine HSm.out.mono ?_
                rintro e w9 ⟨rfl, n9, hw9⟩
                have HKa : Hid (Lv base w X o b W F7 yd yw (.slice adm (lB false l r).length cpm) (lB false l r) w9) := hide (by rw [hw9]; exact HK9.out.below hb0 (D.below_drewN w8 n9))
                clear hw9 HSm HK9
                go_wp2_with fail
                go_roundw
                case rel => exact ⟨i + 1, (sB false s r), (lB false l r), yd, yw, F7, adm, cpm, rfl, rfl, hil, by go_num, HKa, hide ⟨(by have := HY.out.2.2; rw [← HY.out.2.1] at this; exact this), HY.out.1, HLf.out⟩⟩
                case measure => simp only [intOf]; omega
              · have y0 : (ye == 0) = false := by simpa using h0
                have hno : yd = armed d0 n B ∧ yw = ws := by
                  cases HE.out.1 with
                  | no _ _ hd hw => exact ⟨hd, hw⟩
                  | yes k => exact absurd k h0
                  | last k => exact absurd k h2
                  | cut k => exact absurd k h2
                have HY : Hid (yd.dead = false ∧ yw = ws ∧ ConX yd.revive ws s l) := hide (by
                  rw [hno.1]
                  exact ⟨HX4.out.con.live, hno.2, HX4.out.same rfl ⟨HX4.out.con.ok.1, show (0 : Int) ≤ 0 by decide, show (0 : Int) ≤ 9223372036854775807 by decide, hB0, hB1, HX4.out.con.ok.6, HX4.out.con.ok.7⟩ rfl rfl⟩)
                have HK8 : Hid (Lv base w X o b W F7 yd yw (.slice adl l.length cpl) l w7) := hide HK7.out.lv
                have HLf : Hid (i + 1 < T.length → yd.left = 0) := hide fun hlt => by
                  rcases HOr.out with h | h
                  · rw [hno.1]; show (n : Int) = 0; omega
                  · omega
                clear hno HK7 HE HWh HL0
                go_wp2_with fail
                refine (told_any HK8.out.dk (by have := HY.out.2.2; rw [← HY.out.2.1] at this; exact this) HY.out.1).mono ?_
                rintro e w8 ⟨adt, cpt, rfl, hot, hb8⟩
                have hB7 : base ≤ w7.heap.size := Nat.le_trans hb0 HK8.out.bel.size
                have HT8 := hide (own_lo9 hot hB7)
                have HK9 := hide (HK8.out.below hb0 hb8)
                have HSm := hide (same_own HT8.out HK9.out.ol rfl rfl rfl rfl (by have h5 := HX4.out.con.wok.rc; rw [HX4.out.con.rc] at h5; omega))
                clear hot hb8 HK8 HT8 x0 x1 x2 x3 hXl
                go_wp2_with fail
                refine HSm.out.mono ?_
                rintro e w9 ⟨rfl, n9, hw9⟩
                have HKa : Hid (Lv base w X o b W F7 yd yw (.slice adl l.length cpl) l w9) := hide (by rw [hw9]; exact HK9.out.below hb0 (D.below_drewN w8 n9))
                clear hw9 HSm HK9
                go_wp2_with fail
                go_roundw
                case rel => exact ⟨i + 1, s, l, yd, yw, F7, adl, cpl, rfl, rfl, hil, by go_num, HKa, hide ⟨(by have := HY.out.2.2; rw [← HY.out.2.1] at this; exact this), HY.out.1, HLf.out⟩⟩
                case measure => simp only [intOf]; omega
          | true =>
            have HE : Hid (Ends d0 ws (wB true ws r) s (sB true s r) l (lB true l r) (kB true d0 ws r) n B (Wl.snapshot (armed d0 n B) ws r) ∧ (Wl.snapshot (armed d0 n B) ws r).2.1.R.length ≤ d0.R.length + 600) := hide (HX4.out.calls true r hn hB0 hB1)
            have HWh : Hid ((Wl.snapshot (armed d0 n B) ws r).1 = 2 → (cl true d0 ws r).1 = 0 ∧ (cl true d0 ws r).2.1.R.length = d0.R.length + (kB true d0 ws r + 1) ∧ (cl true d0 ws r).2.1.R.length ≤ d0.R.length + 600) := hide fun h2 => HX4.out.wholes true r h2
            have HL0 : Hid ((Wl.snapshot (armed d0 n B) ws r).1 = 0 → i + 1 < T.length → (Wl.snapshot (armed d0 n B) ws r).2.1.left = 0) := hide fun h0 hlt => by
              rcases HOr.out with ⟨rfl, rfl⟩ | h
              · rw [armed_self HX4.out.con.calm] at h0 ⊢
                exact HX4.out.calm_left true r h0
              · omega
            have HA := hide (snapshot_any HK6.out.lv.dk HK6.out.lv.wm HK6.out.lv.nf (ok_armed HX4.out.con.wok n B) (by show (d0.R.length + 600) * 24 ≤ _; rw [HR0.out]; decide) r HRz.out)
            generalize Wl.snapshot (armed d0 n B) ws r = Y at *
            obtain ⟨ye, yd, yw⟩ := Y
            simp only at HE HWh HA HL0
            go_wp2_with fail
            refine HA.out.mono ?_
            rintro e w7 ⟨rfl, hw7, F7, hd7, hm7, nf7⟩
            have HK7 := hide (HK6.out.mv hb0 hd7 hw7 nf7 hm7)
            clear hw7 hd7 hm7 nf7 HA HK6 x0 x1 x2 x3 hXl t2 hTl2
            obtain ⟨hXl, x0, x1, x2, x3⟩ := HLC.out w7 HK7.out.lv.hx
            by_cases h2 : ye = 2
            · subst h2
              obtain ⟨ws', s', l', hDn⟩ := dn_of HE.out.1 rfl HR0.out
              have hBp : B = (pb : Int) := by
                rcases HOr.out with h | h
                · exfalso
                  cases HE.out.1 with
                  | no _ k => exact k rfl
                  | yes k => cases k
                  | last _ k => omega
                  | cut _ k => omega
                · exact h.1
              obtain ⟨v0, v1, v2⟩ := HWh.out rfl
              have HV := hide (And.intro v0 (And.intro (show (cl true d0 ws r).2.1.R.length = kB true d0 ws r + 1 by rw [v1, HR0.out]; omega) (And.intro (show kB true d0 ws r + 1 ≤ 600 by have := HR0.out; omega) (show yd.R.length ≤ 600 by have := HE.out.2; have := HR0.out; omega))))
              have HDn := hide hDn
              subst hBp
              clear v0 v1 v2 hDn HE HWh HOr HL0
              go_wp2_with fail
              refine (HP2.out _).mono ?_
              rintro e w8 ⟨rfl, rfl⟩
              have hB7 : base ≤ w8.heap.size := Nat.le_trans hb0 HK7.out.lv.bel.size
              have HCt := hide (cut_any9 true HK7.out.cu HX4.out HR0.out HDn.out HV.out.1 HV.out.2.1 HV.out.2.2.1 HV.out.2.2.2 HRz.out hB7)
              go_wp2_with fail
              refine HCt.out.mono ?_
              rintro e w9 ⟨rfl, ⟨F9, hd9⟩, hb9⟩
              have HE9 : Hid (Below base w w9 ∧ D.Dk base w9 b F9 yd.revive ∧ ConX yd.revive ws' s' l') := hide ⟨HK7.out.lv.bel.trans hb9, hd9, HDn.out.con⟩
              clear hd9 hb9 HCt HK7 HDn HV x0 x1 x2 x3 hXl
              go_wp2_with fail
              go_ret
              exact ⟨rfl, HE9.out.1, _, _, _, _, _, HE9.out.2⟩
            · have y2 : (ye == 2) = false := by simpa using h2
              by_cases h0 : ye = 0
              · subst h0
                have hyes : yd.dead = false ∧ yw = wB true ws r ∧ ConX yd.revive (wB true ws r) (sB true s r) (lB true l r) := by
                  cases HE.out.1 with
                  | no k => exact absurd rfl k
                  | yes _ _ hd hw _ hC => exact ⟨hd, hw, hC⟩
                  | last k => cases k
                  | cut k => cases k
                have HY := hide hyes
                have HK8 : Hid (Lv base w X o b W F7 yd yw (.slice adm (lB true l r).length cpm) (lB true l r) w7) := hide (HK7.out.lv.told HK7.out.om)
                have HLf : Hid (i + 1 < T.length → yd.left = 0) := hide (HL0.out rfl)
                clear hyes HK7 HE HWh HL0
                go_wp2_with fail
                refine (told_any HK8.out.dk (by have := HY.out.2.2; rw [← HY.out.2.1] at this; exact this) HY.out.1).mono ?_
                rintro e w8 ⟨adt, cpt, rfl, hot, hb8⟩
                have hB7 : base ≤ w7.heap.size := Nat.le_trans hb0 HK8.out.bel.size
                have HT8 := hide (own_lo9 hot hB7)
                have HK9 := hide (HK8.out.below hb0 hb8)
                have HSm := hide (same_own HT8.out HK9.out.ol rfl rfl rfl rfl (by have := HY.out.2.2.con; have h5 := this.wok.rc; rw [this.rc] at h5; omega))
                clear hot hb8 HK8 HT8 x0 x1 x2 x3 hXl
                go_wp2_with fail
                refine HSm.out.mono ?_
                rintro e w9 ⟨rfl, n9, hw9⟩
                have HKa : Hid (Lv base w X o b W F7 yd yw (.slice adm (lB true l r).length cpm) (lB true l r) w9) := hide (by rw [hw9]; exact HK9.out.below hb0 (D.below_drewN w8 n9))
                clear hw9 HSm HK9
                go_wp2_with fail
                go_roundw
                case rel => exact ⟨i + 1, (sB true s r), (lB true l r), yd, yw, F7, adm, cpm, rfl, rfl, hil, by go_num, HKa, hide ⟨(by have := HY.out.2.2; rw [← HY.out.2.1] at this; exact this), HY.out.1, HLf.out⟩⟩
                case measure => simp only [intOf]; omega
              · have y0 : (ye == 0) = false := by simpa using h0
                have hno : yd = armed d0 n B ∧ yw = ws := by
                  cases HE.out.1 with
                  | no _ _ hd hw => exact ⟨hd, hw⟩
                  | yes k => exact absurd k h0
                  | last k => exact absurd k h2
                  | cut k => exact absurd k h2
                have HY : Hid (yd.dead = false ∧ yw = ws ∧ ConX yd.revive ws s l) := hide (by
                  rw [hno.1]
                  exact ⟨HX4.out.con.live, hno.2, HX4.out.same rfl ⟨HX4.out.con.ok.1, show (0 : Int) ≤ 0 by decide, show (0 : Int) ≤ 9223372036854775807 by decide, hB0, hB1, HX4.out.con.ok.6, HX4.out.con.ok.7⟩ rfl rfl⟩)
                have HK8 : Hid (Lv base w X o b W F7 yd yw (.slice adl l.length cpl) l w7) := hide HK7.out.lv
                have HLf : Hid (i + 1 < T.length → yd.left = 0) := hide fun hlt => by
                  rcases HOr.out with h | h
                  · rw [hno.1]; show (n : Int) = 0; omega
                  · omega
                clear hno HK7 HE HWh HL0
                go_wp2_with fail
                refine (told_any HK8.out.dk (by have := HY.out.2.2; rw [← HY.out.2.1] at this; exact this) HY.out.1).mono ?_
                rintro e w8 ⟨adt, cpt, rfl, hot, hb8⟩
                have hB7 : base ≤ w7.heap.size := Nat.le_trans hb0 HK8.out.bel.size
                have HT8 := hide (own_lo9 hot hB7)
                have HK9 := hide (HK8.out.below hb0 hb8)
                have HSm := hide (same_own HT8.out HK9.out.ol rfl rfl rfl rfl (by have h5 := HX4.out.con.wok.rc; rw [HX4.out.con.rc] at h5; omega))
                clear hot hb8 HK8 HT8 x0 x1 x2 x3 hXl
                go_wp2_with fail
                refine HSm.out.mono ?_
                rintro e w9 ⟨rfl, n9, hw9⟩
                have HKa : Hid (Lv base w X o b W F7 yd yw (.slice adl l.length cpl) l w9) := hide (by rw [hw9]; exact HK9.out.below hb0 (D.below_drewN w8 n9))
                clear hw9 HSm HK9
                go_wp2_with fail
                go_roundw
                case rel => exact ⟨i + 1, s, l, yd, yw, F7, adl, cpl, rfl, rfl, hil, by go_num, HKa, hide ⟨(by have := HY.out.2.2; rw [← HY.out.2.1] at this; exact this), HY.out.1, HLf.out⟩⟩
                case measure => simp only [intOf]; omega
    · have hii : ¬ (i : Int) < (T.length : Int) := by omega
      have HA : Hid (Calls Try.prog 23 #[.pointer (some ⟨b, 0, none⟩), .int .i64 0, .int .i64 0] wr fun e w' => e = .returned (.int .i64 0) ∧ D.Dk base w' b F (armed d 0 0) ∧ D.Mv F F wr w') := hide (by
        have := D.arm_any (n := 0) (m := 0) HK.out.dk (by decide)
        rw [show (0 : Int) = ((0 : Nat) : Int) from rfl, arm_eq HC.out.2.1 (by decide) (by decide)] at this
        exact this)
      go_wp2_with fail
      refine HA.out.mono ?_
      rintro e w2 ⟨rfl, hd2, hm2⟩
      have HE : Hid (Below base w w2 ∧ D.Dk base w2 b F (armed d 0 0) ∧ ConX (armed d 0 0) ws s l) := hide ⟨HK.out.bel.trans (hm2.below (Nat.le_trans hb0 HK.out.bel.size) HK.out.dk.ftlow), hd2, HC.out.1.same rfl hd2.ok HC.out.2.1 rfl⟩
      clear hd2 hm2 HA HK HC
      go_wp2_with fail
      go_ret
      exact ⟨rfl, HE.out.1, _, _, _, _, _, HE.out.2⟩
end Go.Proofs.Ytojghjgbnnkldaa
end
