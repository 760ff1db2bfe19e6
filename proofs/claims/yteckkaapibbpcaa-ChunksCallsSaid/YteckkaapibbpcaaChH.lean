import Derived.Test.YteckkaapibbpcaaChG
namespace Go.Proofs.Yteckkaapibbpcaa
open Go.RowKit

theorem Try.infoN : (Try.prog.info? 3).map (fun i => (i.zero, i.size, i.bytes)) = some (some (.int .i64 0), 1, 8) := by kernel_rfl
/-- numbers in a row -/
def ncs (f n : Nat) : List Value := (List.range n).map fun k => .int .i64 ((f + k : Nat) : Int)
theorem ncs_succ (f n : Nat) : ncs f (n + 1) = ncs f n ++ [.int .i64 ((f + n : Nat) : Int)] := by
  unfold ncs
  rw [List.range_succ, List.map_append]; rfl
theorem ncs_len (f n : Nat) : (ncs f n).length = n := by simp [ncs]
theorem ncs_get {f n k : Nat} (h : k < n) : (ncs f n)[k]? = some (.int .i64 ((f + k : Nat) : Int)) := by
  unfold ncs
  rw [List.getElem?_map, List.getElem?_range h]; rfl
theorem own_int0 {w : World} {base g : Nat} (f : Nat) (h : w.heap[g]? = some (.cells #[] 3 (0, 0))) (hb : base ≤ g) : w.ownsRow base 3 1 (.slice (some ⟨g, 0, none⟩) 0 0) 0 (ncs f 0) :=
  ⟨rfl, .inr ⟨g, 0, #[], rfl, hb, h, Nat.le_refl _, Nat.zero_le _, rfl, rfl⟩⟩
theorem int_cell {w : World} {base n g cap f : Nat} (h : w.ownsRow base 3 1 (.slice (some ⟨g, 0, none⟩) n cap) n (ncs f n)) {k : Nat} (hk : k < n) : w.cell? ⟨g, k, none⟩ = some (.int .i64 ((f + k : Nat) : Int)) := by
  have e1 := h.cells (g := g) rfl k _ (ncs_get hk)
  rw [Addr.add_lit, Nat.zero_add] at e1
  exact e1
def RDP (w : World) (x : Nat) (s : Sn) (T : List ByteArray) (ad : Option Addr) (cap X o : Nat) (e : Ending) (w' : World) : Prop :=
  ∃ v, e = .returned v ∧ w'.ownsRow w.heap.size 3 1 v s.its.length (ncs s.from_ s.its.length) ∧ Rb w' x s.due T ad cap X o ∧ On x w w'
set_option maxHeartbeats 4000000 in
set_option maxRecDepth 8000 in
theorem rdue_zero {w : World} {x : Nat} {s : Sn} {T : List ByteArray} {ad : Option Addr} {cap X o : Nat} (hk : s.ok) (h : Rb w x s T ad cap X o) (ht : s.ti = 0) :
    Calls Try.prog 27 #[.pointer (some ⟨x, 0, none⟩)] w (RDP w x s T ad cap X o) := by
  have hfr : s.from_ = s.go := by unfold Sn.from_; rw [if_pos ht]
  have hlo := Sn.from_lo hk
  have hhi := Sn.from_hi hk
  have hwl := Sn.we_hi s
  have hl32 := hk.l
  have hgs := hk.gs
  have hsw := hk.sw
  have HL : Hid (s.its.length = s.we - s.from_) := hide (Sn.its_len s)
  have hTl := h.hi.len
  have HWe : Hid (s.we = min (s.go + s.wd) T.length) := hide (by unfold Sn.we; rw [hTl])
  have hTl32 : T.length ≤ 32 := by rw [← hTl]; exact hk.l
  have hw8 := hk.w8
  have hr2 := hk.r2
  have HN : Hid (s.we - s.from_ = 0 → s.due = s) := hide fun h1 => by unfold Sn.due; rw [if_pos (by omega)]
  have HY : Hid (0 < s.we - s.from_ → s.due = { s with said := s.we, ti := s.rs }) := hide fun h1 => by unfold Sn.due; rw [if_neg (by omega), if_pos ht]
  have HH := hide h
  have hlt := h.lt
  have HTz := hide ht
  have HFr := hide hfr
  have HCs : Hid (∀ V, Below w.heap.size w V → V.cell? ⟨x, 0, none⟩ = some (.int .i64 (s.wd : Int)) ∧ V.cell? ⟨x, 1, none⟩ = some (.int .i64 (s.rs : Int)) ∧ V.cell? ⟨x, 2, none⟩ = some (.slice ad T.length cap) ∧ V.cell? ⟨x, 3, none⟩ = some (.int .i64 (s.go : Int)) ∧ V.cell? ⟨x, 4, none⟩ = some (.int .i64 (s.said : Int)) ∧ V.cell? ⟨x, 5, none⟩ = some (.int .i64 (0)) ∧ V.frozen? ⟨x, 4, none⟩ = false ∧ V.frozen? ⟨x, 5, none⟩ = false) := hide fun V hV => by
    have hb := h.below hV
    have h5 := hb.c5
    rw [ht] at h5
    exact ⟨hb.c0, hb.c1, hb.c2, hb.c3, hb.c4, h5, hb.z 4, hb.z 5⟩
  obtain ⟨iN, hiN, zN0, zN1, zN2⟩ := info_parts Try.infoN
  have HO0 : Hid ((w.alloc (.cells #[] 3)).ownsRow w.heap.size 3 1 (.slice (some ⟨w.heap.size, 0, none⟩) 0 0) 0 (ncs s.from_ 0)) := hide (own_int0 _ (heap_alloc_new w _) (Nat.le_refl _))
  have HB0 : Hid (Below w.heap.size w (w.alloc (.cells #[] 3))) := hide (below_alloc w _)
  obtain ⟨c0, c1, c2, c3, c4, c5, z4, z5⟩ := HCs.out _ HB0.out
  obtain ⟨q, hq⟩ : ∃ q, s.we = q := ⟨_, rfl⟩
  obtain ⟨fr, hf⟩ : ∃ fr, s.from_ = fr := ⟨_, rfl⟩
  rw [hq] at hhi hsw hwl
  rw [hf] at hlo hhi HO0 hfr
  have hg32 : s.go ≤ 32 := by omega
  have hq32 : q ≤ 32 := by omega
  have hs32 : s.said ≤ 32 := by omega
  have hgq : s.go ≤ q := by omega
  have HQ := hide hq
  have HF := hide hf
  have HQ2 : Hid (q ≤ s.go + s.wd ∧ q ≤ T.length ∧ (q = s.go + s.wd ∨ q = T.length)) := hide (by have := HWe.out; omega)
  have HS : Hid (s.go ≤ fr ∧ fr ≤ q ∧ s.said ≤ q ∧ fr = s.go) := hide ⟨hlo, hhi, hsw, hfr⟩
  clear h hk ht hlo hhi hwl hl32 hfr hq hf hTl hgs hsw HWe
  go_enter Try.func27, Try.ntmps27
  go_wp2_with fail
  clear c0 c1 c2 c3 c4 c5 z4 z5
  go_loopw [3, 4] (fun u t wr => ∃ i : Nat, t = .int .i64 (i : Int) ∧ s.go ≤ i ∧ i ≤ q ∧ Hid (wr.ownsRow w.heap.size 3 1 u (i - fr) (ncs fr (i - fr))) ∧ Hid (Below w.heap.size w wr)) (fun _ t _ => q - (intOf t).toNat)
  case atStart =>
    exact ⟨s.go, rfl, Nat.le_refl _, hgq, by rw [show s.go - fr = 0 by have := HS.out.1; omega]; exact HO0, HB0⟩
  case round =>
    clear HO0 HB0
    obtain ⟨i, rfl, hi1, hi2, HO, HB⟩ := hrel
    obtain ⟨c0, c1, c2, c3, c4, c5, z4, z5⟩ := HCs.out _ HB.out
    have hxr : x < wr.heap.size := Nat.lt_of_lt_of_le hlt HB.out.size
    have hsz := HB.out.size
    by_cases hiq : i < q
    · have f1 : i < T.length := by have := HQ2.out; omega
      have f2 : decide ((i : Int) < (s.go : Int) + (s.wd : Int)) = true := decide_eq_true (by have := HQ2.out; omega)
      have f2n : i < s.go + s.wd := by have := HQ2.out; omega
      obtain ⟨adu, capu, rfl⟩ := own_slice HO.out
      have HE : Hid (i = fr + (i - fr)) := hide (by have := HS.out; omega)
      have HT : Hid (ncs fr (i + 1 - fr) = ncs fr (i - fr) ++ [.int .i64 (i : Int)] ∧ i + 1 - fr = i - fr + 1) := hide (by have := HE.out; have h1 : i + 1 - fr = i - fr + 1 := (by omega); rw [h1, ncs_succ, ← HE.out]; exact ⟨rfl, rfl⟩)
      obtain ⟨j, hj⟩ : ∃ j, i - fr = j := ⟨_, rfl⟩
      rw [hj] at HO HT ⊢
      have hj32 : j ≤ 32 := by omega
      clear hj
      go_wp2_with fail
      go_quiet (fail)
      have HOA : Hid (((wr.drewN nq).alloc (.cells #[.int .i64 (i : Int)] 3)).ownsRow w.heap.size 3 1 (.slice adu j capu) j (ncs fr j)) := hide (own_below (own_keep (w' := wr.drewN nq) HO.out fun _ _ => rfl) (below_alloc (wr.drewN nq) _))
      have HBA : Hid (Below w.heap.size w ((wr.drewN nq).alloc (.cells #[.int .i64 (i : Int)] 3))) := hide ((below_drewN HB.out nq).alloc hsz _)
      have hap : Hid (∀ g, (Value.slice adu j capu).ownBlock = some g → w.heap.size ≤ g) := hide fun g e => (HO.out.lt g e).1
      go_wp2_with (at_builtin; refine wpList_append_lies _ rfl (.tmp 46) (.tmp 48) 55 rfl w.heap.size 3 iN (.int .i64 0) 1 8 Try.underlying55 hiN zN0 zN1 zN2 rfl (by decide) (.slice adu j capu) j (ncs fr j) rfl HOA.out ⟨wr.heap.size, 0, none⟩ 1 1 [.int .i64 (i : Int)] rfl rfl (one_new (wr.drewN nq) _ _) (by intro u hu; simp at hu; subst hu; rfl) (by decide) (by unfold maxLen; omega) (by omega) (by rw [World.size_alloc]; show w.heap.size ≤ wr.heap.size + 1; omega) _ rfl ?_; intro g7 cap7 w7 hown7 hgr7 hat7 hlt7; have HO7 := hide hown7; have HB7 := hide (HBA.out.grown hgr7 (by rw [World.size_alloc]; show w.heap.size ≤ wr.heap.size + 1; omega) hap.out); clear hown7 hgr7 hat7 hlt7)
      go_roundw
      case rel => exact ⟨i + 1, by go_num, by omega, by omega, by rw [HT.out.1, HT.out.2]; exact HO7, HB7⟩
      case measure => simp only [intOf]; omega
    · obtain rfl : i = q := by omega
      obtain ⟨n, hn⟩ : ∃ n, i - fr = n := ⟨_, rfl⟩
      rw [hn] at HO
      have HNn : Hid (s.its.length = n) := hide (by rw [HL.out, HQ.out, HF.out]; exact hn)
      have HN1 : Hid (n = 0 → s.due = s) := hide fun h1 => HN.out (by rw [HQ.out, HF.out, hn]; exact h1)
      have HY1 : Hid (0 < n → s.due = { s with said := i, ti := s.rs }) := hide fun h1 => by have := HY.out (by rw [HQ.out, HF.out, hn]; exact h1); rw [HQ.out] at this; exact this
      have HFn : Hid (0 < n → fr + (n - 1) + 1 = i) := hide (by have := HS.out; omega)
      have hn32 : n ≤ 32 := by omega
      obtain ⟨adu, capu, rfl⟩ := own_slice HO.out
      clear HN HY hiq hn HL
      by_cases hT : i < T.length
      · have f2 : decide ((i : Int) < (s.go : Int) + (s.wd : Int)) = false := decide_eq_false (by have := HQ2.out; omega)
        go_wp2_with fail
        go_quiet (fail)
        have HO := hide (own_keep (w' := wr.drewN nq) HO.out fun _ _ => rfl)
        have HB := hide (below_drewN HB.out nq)
        obtain ⟨wm, hwm⟩ : ∃ wm, wr.drewN nq = wm := ⟨_, rfl⟩
        rw [hwm] at HO HB ⊢
        obtain ⟨k0, k1, k2, k3, k4, k5, y4, y5⟩ := HCs.out _ HB.out
        clear c0 c1 c2 c3 c4 c5 z4 z5 hwm
        by_cases hn0 : n = 0
        · subst hn0
          have HD := hide (HN1.out rfl)
          clear HN1 HY1 HFn
          go_wp2_with fail
          go_ret
          exact ⟨_, rfl, by rw [HNn.out]; rw [HF.out]; exact HO.out, by rw [HD.out]; exact HH.out.below HB.out, On.of_below HB.out⟩
        · have hnp : 0 < n := by omega
          have HD := hide (HY1.out hnp)
          obtain ⟨m, rfl⟩ : ∃ m, n = m + 1 := ⟨n - 1, by omega⟩
          obtain ⟨g, cg, cur, hv, hbg, _, _, _, _⟩ := own_form HO.out (by omega)
          injection hv with hv1 hv2 hv3
          subst hv1; subst hv3
          clear hv2
          have x0 := int_cell HO.out (k := m) (by omega)
          have hlast : fr + m + 1 = i := by have := HFn.out hnp; omega
          have hlI : ((fr + m : Nat) : Int) + 1 = (i : Int) := by omega
          obtain ⟨lm, hlm⟩ : ∃ lm, fr + m = lm := ⟨_, rfl⟩
          rw [hlm] at x0 hlI
          have hlm32 : lm ≤ 32 := by omega
          have HGb : Hid (w.heap.size ≤ g) := hide hbg
          clear HN1 HY1 HFn hn0 hlm hlast hbg
          by_cases hsl : s.said < i
          · have hS : Hid (s.said < i) := hide hsl
            go_wp2_with fail
            go_ret
            refine ⟨_, rfl, ?_, ?_, ?_⟩
            · rw [HNn.out, HF.out]
              exact own_keep HO.out fun j hj => (Below.heap_setCell _ ⟨x, 5, none⟩ _ j (by show j ≠ x; have := (HO.out.lt j hj).1; omega)).trans (Below.heap_setCell _ ⟨x, 4, none⟩ _ j (by show j ≠ x; have := (HO.out.lt j hj).1; omega))
            · rw [HD.out]
              have hb := HH.out.below HB.out
              have i2 := heap_set_self wm x 4 (.int .i64 ((i : Nat) : Int)) _ _ _ hb.cb
              have i3 := heap_set_self _ x 5 (.int .i64 ((s.rs : Nat) : Int)) _ _ _ i2
              exact ⟨i3, hb.rs.keep fun h0 => (Below.heap_setCell _ ⟨x, 5, none⟩ _ X (hb.ne h0)).trans (Below.heap_setCell _ ⟨x, 4, none⟩ _ X (hb.ne h0)), HH.out.hi⟩
            · exact ((On.of_below HB.out).set _ _).set _ _
          · have hse : s.said = i := by have := HS.out; omega
            have HSe := hide hse
            have hsl2 : ¬ s.said < i := hsl
            clear hse hsl
            go_wp2_with fail
            go_ret
            refine ⟨_, rfl, ?_, ?_, ?_⟩
            · rw [HNn.out, HF.out]
              exact own_keep HO.out fun j hj => Below.heap_setCell _ ⟨x, 5, none⟩ _ j (by show j ≠ x; have := (HO.out.lt j hj).1; omega)
            · rw [HD.out]
              have hb := HH.out.below HB.out
              have hbc := hb.cb
              unfold dcs at hbc
              rw [HSe.out] at hbc
              have i3 := heap_set_self _ x 5 (.int .i64 ((s.rs : Nat) : Int)) _ _ _ hbc
              exact ⟨i3, hb.rs.keep fun h0 => Below.heap_setCell _ ⟨x, 5, none⟩ _ X (hb.ne h0), HH.out.hi⟩
            · exact (On.of_below HB.out).set _ _
      · have f1 : ¬ i < T.length := hT
        go_wp2_with fail
        go_quiet (fail)
        have HO := hide (own_keep (w' := wr.drewN nq) HO.out fun _ _ => rfl)
        have HB := hide (below_drewN HB.out nq)
        obtain ⟨wm, hwm⟩ : ∃ wm, wr.drewN nq = wm := ⟨_, rfl⟩
        rw [hwm] at HO HB ⊢
        obtain ⟨k0, k1, k2, k3, k4, k5, y4, y5⟩ := HCs.out _ HB.out
        clear c0 c1 c2 c3 c4 c5 z4 z5 hwm
        by_cases hn0 : n = 0
        · subst hn0
          have HD := hide (HN1.out rfl)
          clear HN1 HY1 HFn
          go_wp2_with fail
          go_ret
          exact ⟨_, rfl, by rw [HNn.out]; rw [HF.out]; exact HO.out, by rw [HD.out]; exact HH.out.below HB.out, On.of_below HB.out⟩
        · have hnp : 0 < n := by omega
          have HD := hide (HY1.out hnp)
          obtain ⟨m, rfl⟩ : ∃ m, n = m + 1 := ⟨n - 1, by omega⟩
          obtain ⟨g, cg, cur, hv, hbg, _, _, _, _⟩ := own_form HO.out (by omega)
          injection hv with hv1 hv2 hv3
          subst hv1; subst hv3
          clear hv2
          have x0 := int_cell HO.out (k := m) (by omega)
          have hlast : fr + m + 1 = i := by have := HFn.out hnp; omega
          have hlI : ((fr + m : Nat) : Int) + 1 = (i : Int) := by omega
          obtain ⟨lm, hlm⟩ : ∃ lm, fr + m = lm := ⟨_, rfl⟩
          rw [hlm] at x0 hlI
          have hlm32 : lm ≤ 32 := by omega
          have HGb : Hid (w.heap.size ≤ g) := hide hbg
          clear HN1 HY1 HFn hn0 hlm hlast hbg
          by_cases hsl : s.said < i
          · have hS : Hid (s.said < i) := hide hsl
            go_wp2_with fail
            go_ret
            refine ⟨_, rfl, ?_, ?_, ?_⟩
            · rw [HNn.out, HF.out]
              exact own_keep HO.out fun j hj => (Below.heap_setCell _ ⟨x, 5, none⟩ _ j (by show j ≠ x; have := (HO.out.lt j hj).1; omega)).trans (Below.heap_setCell _ ⟨x, 4, none⟩ _ j (by show j ≠ x; have := (HO.out.lt j hj).1; omega))
            · rw [HD.out]
              have hb := HH.out.below HB.out
              have i2 := heap_set_self wm x 4 (.int .i64 ((i : Nat) : Int)) _ _ _ hb.cb
              have i3 := heap_set_self _ x 5 (.int .i64 ((s.rs : Nat) : Int)) _ _ _ i2
              exact ⟨i3, hb.rs.keep fun h0 => (Below.heap_setCell _ ⟨x, 5, none⟩ _ X (hb.ne h0)).trans (Below.heap_setCell _ ⟨x, 4, none⟩ _ X (hb.ne h0)), HH.out.hi⟩
            · exact ((On.of_below HB.out).set _ _).set _ _
          · have hse : s.said = i := by have := HS.out; omega
            have HSe := hide hse
            have hsl2 : ¬ s.said < i := hsl
            clear hse hsl
            go_wp2_with fail
            go_ret
            refine ⟨_, rfl, ?_, ?_, ?_⟩
            · rw [HNn.out, HF.out]
              exact own_keep HO.out fun j hj => Below.heap_setCell _ ⟨x, 5, none⟩ _ j (by show j ≠ x; have := (HO.out.lt j hj).1; omega)
            · rw [HD.out]
              have hb := HH.out.below HB.out
              have hbc := hb.cb
              unfold dcs at hbc
              rw [HSe.out] at hbc
              have i3 := heap_set_self _ x 5 (.int .i64 ((s.rs : Nat) : Int)) _ _ _ hbc
              exact ⟨i3, hb.rs.keep fun h0 => Below.heap_setCell _ ⟨x, 5, none⟩ _ X (hb.ne h0), HH.out.hi⟩
            · exact (On.of_below HB.out).set _ _
set_option maxHeartbeats 4000000 in
set_option maxRecDepth 8000 in
theorem rdue_some {w : World} {x : Nat} {s : Sn} {T : List ByteArray} {ad : Option Addr} {cap X o : Nat} (hk : s.ok) (h : Rb w x s T ad cap X o) (ht : ¬ s.ti = 0) :
    Calls Try.prog 27 #[.pointer (some ⟨x, 0, none⟩)] w (RDP w x s T ad cap X o) := by
  have hfr : s.from_ = s.said := by unfold Sn.from_; rw [if_neg ht]
  have hlo := Sn.from_lo hk
  have hhi := Sn.from_hi hk
  have hwl := Sn.we_hi s
  have hl32 := hk.l
  have hgs := hk.gs
  have hsw := hk.sw
  have HL : Hid (s.its.length = s.we - s.from_) := hide (Sn.its_len s)
  have hTl := h.hi.len
  have HWe : Hid (s.we = min (s.go + s.wd) T.length) := hide (by unfold Sn.we; rw [hTl])
  have hTl32 : T.length ≤ 32 := by rw [← hTl]; exact hk.l
  have hw8 := hk.w8
  have hr2 := hk.r2
  have HN : Hid (s.we - s.from_ = 0 → s.due = s) := hide fun h1 => by unfold Sn.due; rw [if_pos (by omega)]
  have HY : Hid (0 < s.we - s.from_ → s.due = { s with said := s.we, ti := s.ti }) := hide fun h1 => by unfold Sn.due; rw [if_neg (by omega), if_neg ht]
  have HH := hide h
  have hlt := h.lt
  have HTz := hide ht
  have HFr := hide hfr
  have HCs : Hid (∀ V, Below w.heap.size w V → V.cell? ⟨x, 0, none⟩ = some (.int .i64 (s.wd : Int)) ∧ V.cell? ⟨x, 1, none⟩ = some (.int .i64 (s.rs : Int)) ∧ V.cell? ⟨x, 2, none⟩ = some (.slice ad T.length cap) ∧ V.cell? ⟨x, 3, none⟩ = some (.int .i64 (s.go : Int)) ∧ V.cell? ⟨x, 4, none⟩ = some (.int .i64 (s.said : Int)) ∧ V.cell? ⟨x, 5, none⟩ = some (.int .i64 (s.ti : Int)) ∧ V.frozen? ⟨x, 4, none⟩ = false ∧ V.frozen? ⟨x, 5, none⟩ = false) := hide fun V hV => by
    have hb := h.below hV
    have h5 := hb.c5

    exact ⟨hb.c0, hb.c1, hb.c2, hb.c3, hb.c4, h5, hb.z 4, hb.z 5⟩
  obtain ⟨iN, hiN, zN0, zN1, zN2⟩ := info_parts Try.infoN
  have HO0 : Hid ((w.alloc (.cells #[] 3)).ownsRow w.heap.size 3 1 (.slice (some ⟨w.heap.size, 0, none⟩) 0 0) 0 (ncs s.from_ 0)) := hide (own_int0 _ (heap_alloc_new w _) (Nat.le_refl _))
  have HB0 : Hid (Below w.heap.size w (w.alloc (.cells #[] 3))) := hide (below_alloc w _)
  obtain ⟨c0, c1, c2, c3, c4, c5, z4, z5⟩ := HCs.out _ HB0.out
  obtain ⟨q, hq⟩ : ∃ q, s.we = q := ⟨_, rfl⟩
  obtain ⟨fr, hf⟩ : ∃ fr, s.from_ = fr := ⟨_, rfl⟩
  rw [hq] at hhi hsw hwl
  rw [hf] at hlo hhi HO0 hfr
  have hg32 : s.go ≤ 32 := by omega
  have hq32 : q ≤ 32 := by omega
  have hs32 : s.said ≤ 32 := by omega
  have hgq : s.go ≤ q := by omega
  have HQ := hide hq
  have HF := hide hf
  have HQ2 : Hid (q ≤ s.go + s.wd ∧ q ≤ T.length ∧ (q = s.go + s.wd ∨ q = T.length)) := hide (by have := HWe.out; omega)
  have HS : Hid (s.go ≤ fr ∧ fr ≤ q ∧ s.said ≤ q ∧ fr = s.said) := hide ⟨hlo, hhi, hsw, hfr⟩
  clear h hk ht hlo hhi hwl hl32 hfr hq hf hTl hgs hsw HWe
  go_enter Try.func27, Try.ntmps27
  go_wp2_with fail
  clear c0 c1 c2 c3 c4 c5 z4 z5
  go_loopw [3, 4] (fun u t wr => ∃ i : Nat, t = .int .i64 (i : Int) ∧ s.go ≤ i ∧ i ≤ q ∧ Hid (wr.ownsRow w.heap.size 3 1 u (i - fr) (ncs fr (i - fr))) ∧ Hid (Below w.heap.size w wr)) (fun _ t _ => q - (intOf t).toNat)
  case atStart =>
    exact ⟨s.go, rfl, Nat.le_refl _, hgq, by rw [show s.go - fr = 0 by have := HS.out.1; omega]; exact HO0, HB0⟩
  case round =>
    clear HO0 HB0
    obtain ⟨i, rfl, hi1, hi2, HO, HB⟩ := hrel
    obtain ⟨c0, c1, c2, c3, c4, c5, z4, z5⟩ := HCs.out _ HB.out
    have hxr : x < wr.heap.size := Nat.lt_of_lt_of_le hlt HB.out.size
    have hsz := HB.out.size
    by_cases hiq : i < q
    · have f1 : i < T.length := by have := HQ2.out; omega
      have f2 : decide ((i : Int) < (s.go : Int) + (s.wd : Int)) = true := decide_eq_true (by have := HQ2.out; omega)
      have f2n : i < s.go + s.wd := by have := HQ2.out; omega
      obtain ⟨adu, capu, rfl⟩ := own_slice HO.out
      have hti2 : (s.ti == 0) = false := by have := HTz.out; simpa using this
      by_cases hsd : s.said ≤ i
      · have hsI : s.said ≤ i := hsd
        clear hsd
        have HE : Hid (i = fr + (i - fr)) := hide (by have := HS.out; omega)
        have HT : Hid (ncs fr (i + 1 - fr) = ncs fr (i - fr) ++ [.int .i64 (i : Int)] ∧ i + 1 - fr = i - fr + 1) := hide (by have := HE.out; have h1 : i + 1 - fr = i - fr + 1 := (by omega); rw [h1, ncs_succ, ← HE.out]; exact ⟨rfl, rfl⟩)
        obtain ⟨j, hj⟩ : ∃ j, i - fr = j := ⟨_, rfl⟩
        rw [hj] at HO HT ⊢
        have hj32 : j ≤ 32 := by omega
        clear hj
        go_wp2_with fail
        go_quiet (fail)
        have HOA : Hid (((wr.drewN nq).alloc (.cells #[.int .i64 (i : Int)] 3)).ownsRow w.heap.size 3 1 (.slice adu j capu) j (ncs fr j)) := hide (own_below (own_keep (w' := wr.drewN nq) HO.out fun _ _ => rfl) (below_alloc (wr.drewN nq) _))
        have HBA : Hid (Below w.heap.size w ((wr.drewN nq).alloc (.cells #[.int .i64 (i : Int)] 3))) := hide ((below_drewN HB.out nq).alloc hsz _)
        have hap : Hid (∀ g, (Value.slice adu j capu).ownBlock = some g → w.heap.size ≤ g) := hide fun g e => (HO.out.lt g e).1
        go_wp2_with (at_builtin; refine wpList_append_lies _ rfl (.tmp 46) (.tmp 48) 55 rfl w.heap.size 3 iN (.int .i64 0) 1 8 Try.underlying55 hiN zN0 zN1 zN2 rfl (by decide) (.slice adu j capu) j (ncs fr j) rfl HOA.out ⟨wr.heap.size, 0, none⟩ 1 1 [.int .i64 (i : Int)] rfl rfl (one_new (wr.drewN nq) _ _) (by intro u hu; simp at hu; subst hu; rfl) (by decide) (by unfold maxLen; omega) (by omega) (by rw [World.size_alloc]; show w.heap.size ≤ wr.heap.size + 1; omega) _ rfl ?_; intro g7 cap7 w7 hown7 hgr7 hat7 hlt7; have HO7 := hide hown7; have HB7 := hide (HBA.out.grown hgr7 (by rw [World.size_alloc]; show w.heap.size ≤ wr.heap.size + 1; omega) hap.out); clear hown7 hgr7 hat7 hlt7)
        go_roundw
        case rel => exact ⟨i + 1, by go_num, by omega, by omega, by rw [HT.out.1, HT.out.2]; exact HO7, HB7⟩
        case measure => simp only [intOf]; omega
      · have HE : Hid (i - fr = 0 ∧ i + 1 - fr = 0) := hide (by have := HS.out; omega)
        rw [HE.out.1] at HO ⊢
        go_wp2_with fail
        go_quiet (fail)
        go_wp2_with fail
        go_roundw
        case rel => exact ⟨i + 1, by go_num, by omega, by omega, by rw [HE.out.2]; exact hide (own_keep HO.out fun _ _ => rfl), hide (below_drewN HB.out nq)⟩
        case measure => simp only [intOf]; omega
    · obtain rfl : i = q := by omega
      obtain ⟨n, hn⟩ : ∃ n, i - fr = n := ⟨_, rfl⟩
      rw [hn] at HO
      have HNn : Hid (s.its.length = n) := hide (by rw [HL.out, HQ.out, HF.out]; exact hn)
      have HN1 : Hid (n = 0 → s.due = s) := hide fun h1 => HN.out (by rw [HQ.out, HF.out, hn]; exact h1)
      have HY1 : Hid (0 < n → s.due = { s with said := i, ti := s.ti }) := hide fun h1 => by have := HY.out (by rw [HQ.out, HF.out, hn]; exact h1); rw [HQ.out] at this; exact this
      have HFn : Hid (0 < n → fr + (n - 1) + 1 = i) := hide (by have := HS.out; omega)
      have hn32 : n ≤ 32 := by omega
      obtain ⟨adu, capu, rfl⟩ := own_slice HO.out
      clear HN HY hiq hn HL
      by_cases hT : i < T.length
      · have f2 : decide ((i : Int) < (s.go : Int) + (s.wd : Int)) = false := decide_eq_false (by have := HQ2.out; omega)
        have hti2 : (s.ti == 0) = false := by have := HTz.out; simpa using this
        go_wp2_with fail
        go_quiet (fail)
        have HO := hide (own_keep (w' := wr.drewN nq) HO.out fun _ _ => rfl)
        have HB := hide (below_drewN HB.out nq)
        obtain ⟨wm, hwm⟩ : ∃ wm, wr.drewN nq = wm := ⟨_, rfl⟩
        rw [hwm] at HO HB ⊢
        obtain ⟨k0, k1, k2, k3, k4, k5, y4, y5⟩ := HCs.out _ HB.out
        clear c0 c1 c2 c3 c4 c5 z4 z5 hwm
        by_cases hn0 : n = 0
        · subst hn0
          have HD := hide (HN1.out rfl)
          clear HN1 HY1 HFn
          go_wp2_with fail
          go_ret
          exact ⟨_, rfl, by rw [HNn.out]; rw [HF.out]; exact HO.out, by rw [HD.out]; exact HH.out.below HB.out, On.of_below HB.out⟩
        · have hnp : 0 < n := by omega
          have HD := hide (HY1.out hnp)
          obtain ⟨m, rfl⟩ : ∃ m, n = m + 1 := ⟨n - 1, by omega⟩
          obtain ⟨g, cg, cur, hv, hbg, _, _, _, _⟩ := own_form HO.out (by omega)
          injection hv with hv1 hv2 hv3
          subst hv1; subst hv3
          clear hv2
          have x0 := int_cell HO.out (k := m) (by omega)
          have hlast : fr + m + 1 = i := by have := HFn.out hnp; omega
          have hlI : ((fr + m : Nat) : Int) + 1 = (i : Int) := by omega
          obtain ⟨lm, hlm⟩ : ∃ lm, fr + m = lm := ⟨_, rfl⟩
          rw [hlm] at x0 hlI
          have hlm32 : lm ≤ 32 := by omega
          have HGb : Hid (w.heap.size ≤ g) := hide hbg
          clear HN1 HY1 HFn hn0 hlm hlast hbg
          by_cases hsl : s.said < i
          · have hS : Hid (s.said < i) := hide hsl
            go_wp2_with fail
            go_ret
            refine ⟨_, rfl, ?_, ?_, ?_⟩
            · rw [HNn.out, HF.out]
              exact own_keep HO.out fun j hj => (Below.heap_setCell _ ⟨x, 4, none⟩ _ j (by show j ≠ x; have := (HO.out.lt j hj).1; omega))
            · rw [HD.out]
              have hb := HH.out.below HB.out
              have i2 := heap_set_self wm x 4 (.int .i64 ((i : Nat) : Int)) _ _ _ hb.cb
              exact ⟨i2, hb.rs.keep fun h0 => Below.heap_setCell _ ⟨x, 4, none⟩ _ X (hb.ne h0), HH.out.hi⟩
            · exact (On.of_below HB.out).set _ _
          · have hse : s.said = i := by have := HS.out; omega
            have HSe := hide hse
            have hsl2 : ¬ s.said < i := hsl
            clear hse hsl
            go_wp2_with fail
            go_ret
            refine ⟨_, rfl, ?_, ?_, ?_⟩
            · rw [HNn.out, HF.out]
              exact HO.out
            · rw [HD.out]
              have hb := HH.out.below HB.out
              have hbc := hb.cb
              unfold dcs at hbc
              rw [HSe.out] at hbc
              exact ⟨hbc, hb.rs, HH.out.hi⟩
            · exact On.of_below HB.out
      · have f1 : ¬ i < T.length := hT
        have hti2 : (s.ti == 0) = false := by have := HTz.out; simpa using this
        go_wp2_with fail
        go_quiet (fail)
        have HO := hide (own_keep (w' := wr.drewN nq) HO.out fun _ _ => rfl)
        have HB := hide (below_drewN HB.out nq)
        obtain ⟨wm, hwm⟩ : ∃ wm, wr.drewN nq = wm := ⟨_, rfl⟩
        rw [hwm] at HO HB ⊢
        obtain ⟨k0, k1, k2, k3, k4, k5, y4, y5⟩ := HCs.out _ HB.out
        clear c0 c1 c2 c3 c4 c5 z4 z5 hwm
        by_cases hn0 : n = 0
        · subst hn0
          have HD := hide (HN1.out rfl)
          clear HN1 HY1 HFn
          go_wp2_with fail
          go_ret
          exact ⟨_, rfl, by rw [HNn.out]; rw [HF.out]; exact HO.out, by rw [HD.out]; exact HH.out.below HB.out, On.of_below HB.out⟩
        · have hnp : 0 < n := by omega
          have HD := hide (HY1.out hnp)
          obtain ⟨m, rfl⟩ : ∃ m, n = m + 1 := ⟨n - 1, by omega⟩
          obtain ⟨g, cg, cur, hv, hbg, _, _, _, _⟩ := own_form HO.out (by omega)
          injection hv with hv1 hv2 hv3
          subst hv1; subst hv3
          clear hv2
          have x0 := int_cell HO.out (k := m) (by omega)
          have hlast : fr + m + 1 = i := by have := HFn.out hnp; omega
          have hlI : ((fr + m : Nat) : Int) + 1 = (i : Int) := by omega
          obtain ⟨lm, hlm⟩ : ∃ lm, fr + m = lm := ⟨_, rfl⟩
          rw [hlm] at x0 hlI
          have hlm32 : lm ≤ 32 := by omega
          have HGb : Hid (w.heap.size ≤ g) := hide hbg
          clear HN1 HY1 HFn hn0 hlm hlast hbg
          by_cases hsl : s.said < i
          · have hS : Hid (s.said < i) := hide hsl
            go_wp2_with fail
            go_ret
            refine ⟨_, rfl, ?_, ?_, ?_⟩
            · rw [HNn.out, HF.out]
              exact own_keep HO.out fun j hj => (Below.heap_setCell _ ⟨x, 4, none⟩ _ j (by show j ≠ x; have := (HO.out.lt j hj).1; omega))
            · rw [HD.out]
              have hb := HH.out.below HB.out
              have i2 := heap_set_self wm x 4 (.int .i64 ((i : Nat) : Int)) _ _ _ hb.cb
              exact ⟨i2, hb.rs.keep fun h0 => Below.heap_setCell _ ⟨x, 4, none⟩ _ X (hb.ne h0), HH.out.hi⟩
            · exact (On.of_below HB.out).set _ _
          · have hse : s.said = i := by have := HS.out; omega
            have HSe := hide hse
            have hsl2 : ¬ s.said < i := hsl
            clear hse hsl
            go_wp2_with fail
            go_ret
            refine ⟨_, rfl, ?_, ?_, ?_⟩
            · rw [HNn.out, HF.out]
              exact HO.out
            · rw [HD.out]
              have hb := HH.out.below HB.out
              have hbc := hb.cb
              unfold dcs at hbc
              rw [HSe.out] at hbc
              exact ⟨hbc, hb.rs, HH.out.hi⟩
            · exact On.of_below HB.out
theorem rdue_any {w : World} {x : Nat} {s : Sn} {T : List ByteArray} {ad : Option Addr} {cap X o : Nat} (hk : s.ok) (h : Rb w x s T ad cap X o) : Calls Try.prog 27 #[.pointer (some ⟨x, 0, none⟩)] w (RDP w x s T ad cap X o) := by
  by_cases ht : s.ti = 0
  · exact rdue_zero hk h ht
  · exact rdue_some hk h ht
end Go.Proofs.Yteckkaapibbpcaa
