import Derived.Test.YtmkfhcdmcncgkaaSyB
namespace Go.Proofs.Ytmkfhcdmcncgkaa
open Go.RowKit Go.Shelf

/-- the document's stitcher, whatever its marks and texts are -/
def Xs (w : World) (x : Nat) (s : Sw) : Prop := ∃ H T, Xb w x s.win s.nxt H T ∧ LkM s.L H T
theorem Xs.below {w w' : World} {x : Nat} {s : Sw} (h : Xs w x s) (hb : Below w.heap.size w w') : Xs w' x s := by
  obtain ⟨H, T, h1, h2⟩ := h
  exact ⟨H, T, h1.below hb, h2⟩
theorem Xs.keep {w w' : World} {x : Nat} {s : Sw} (h : Xs w x s) (e : w'.heap[x]? = w.heap[x]?) : Xs w' x s := by
  obtain ⟨H, T, h1, h2⟩ := h
  exact ⟨H, T, h1.keep e, h2⟩
theorem Xs.lt {w : World} {x : Nat} {s : Sw} (h : Xs w x s) : x < w.heap.size := by
  obtain ⟨H, T, h1, _⟩ := h
  exact h1.lt
theorem Xs.blk {w : World} {x : Nat} {s : Sw} (h : Xs w x s) : ∃ cs, w.heap[x]? = some (.cells cs 39 (0, 0)) := by
  obtain ⟨H, T, h1, _⟩ := h
  exact ⟨_, h1.blk⟩
/-- behind the document's Take -/
def XkP (s : Sw) (x : Nat) (i : Int) (t : ByteArray) (w : World) (e : Ending) (w' : World) : Prop :=
  ∃ v, e = .returned (.tuple #[v, .int .i64 (s.bad i t)]) ∧ w'.ownsRow w.heap.size 9 1 v (s.out i t).length (tcs (s.out i t)) ∧ Xs w' x (s.tk i t) ∧ w.grownBy w' (some x)
theorem grown_refl (w : World) (x : Option Nat) : w.grownBy w x := ⟨rfl, rfl, rfl, Nat.le_refl _, fun _ _ _ => rfl⟩
theorem grown_below {w w' : World} (h : Below w.heap.size w w') (x : Option Nat) : w.grownBy w' x := ⟨h.os, h.tape, h.output, h.size, fun k hk _ => h.block k hk⟩
theorem grown_trans {w W w' : World} {row : Option Nat} (hg : w.grownBy W row) (hb : W.grownBy w' row) : w.grownBy w' row :=
  ⟨hb.os.trans hg.os, hb.tape.trans hg.tape, hb.output.trans hg.output, Nat.le_trans hg.size hb.size, fun k hk hne => (hb.block k (Nat.lt_of_lt_of_le hk hg.size) hne).trans (hg.block k hk hne)⟩
theorem grown_drewN {w W : World} {row : Option Nat} (hg : w.grownBy W row) (n : Nat) : w.grownBy (W.drewN n) row := ⟨hg.os, hg.tape, hg.output, hg.size, hg.block⟩
/-- and a row of one's own turns -/
theorem grown_more {w W w' : World} {x : Nat} {o : Obj} {row : Option Nat} (hg : w.grownBy W (some x)) (hb : (W.drew.alloc o).grownBy w' row) (hr : ∀ k, row = some k → w.heap.size ≤ k) : w.grownBy w' (some x) := by
  refine ⟨hb.os.trans hg.os, hb.tape.trans hg.tape, hb.output.trans hg.output, Nat.le_trans hg.size (Nat.le_trans (by simp) hb.size), fun k hk hne => ?_⟩
  have h1 : k < W.heap.size := Nat.lt_of_lt_of_le hk hg.size
  refine (hb.block k (by rw [World.size_alloc]; show k < W.heap.size + 1; omega) (fun e => by have := hr k e.symm; omega)).trans ?_
  exact (Below.heap_alloc W.drew o k h1).trans (hg.block k hk hne)
/-- the document's number -/
def xn (w : World) (x : Nat) : Int := match w.cell? ⟨x, 1, none⟩ with
  | some (.int _ k) => k
  | _ => 0
theorem Xb.xn {w : World} {x : Nat} {win n : Int} {H : List Bool} {T : List ByteArray} (h : Xb w x win n H T) : Go.Proofs.Ytmkfhcdmcncgkaa.xn w x = n := by
  unfold Go.Proofs.Ytmkfhcdmcncgkaa.xn
  rw [h.c1]
/-- what a Take makes, by one handing on -/
theorem tk_one {s : Sw} (h : s.ok) {i : Int} {t : ByteArray} (hz : s.bad i t = 0) : s.out i t = (hnd s.nxt (if has i s.L then s.L else put ⟨i, t⟩ s.L)).1 ∧ s.tk i t = ⟨s.win, (hnd s.nxt (if has i s.L then s.L else put ⟨i, t⟩ s.L)).2.1, (hnd s.nxt (if has i s.L then s.L else put ⟨i, t⟩ s.L)).2.2⟩ := by
  cases hh : has i s.L with
  | true =>
    have hn : has s.nxt s.L = false := has_false.2 fun x hx => by have := (h.all x hx).1; omega
    rw [if_pos rfl, hnd_no hn]
    refine ⟨?_, ?_⟩
    · unfold Sw.out; rw [hz, if_pos rfl, if_pos hh]
    · unfold Sw.tk; rw [hz, if_pos rfl, if_pos hh]
  | false =>
    rw [if_neg (by decide)]
    refine ⟨?_, ?_⟩
    · unfold Sw.out; rw [hz, if_pos rfl, if_neg (by rw [hh]; decide)]; rfl
    · unfold Sw.tk; rw [hz, if_pos rfl, if_neg (by rw [hh]; decide)]; rfl

set_option maxRecDepth 8000 in
set_option maxHeartbeats 4000000 in
theorem xtake_text {w : World} {x : Nat} {s : Sw} (h : Xs w x s) {i : Int} {t : ByteArray} (ht : 32 < t.size) :
    Calls Try.prog 15 #[.pointer (some ⟨x, 0, none⟩), .int .i64 i, .string t] w (XkP s x i t w) := by
  have HW := hide h
  have hb : s.bad i t = 152 := by unfold Sw.bad; rw [if_pos ht]
  have HO : Hid (s.out i t = [] ∧ s.tk i t = s) := by
    refine hide ⟨?_, ?_⟩
    · unfold Sw.out; rw [hb]; rfl
    · unfold Sw.tk; rw [hb]; rfl
  have HB := hide hb
  clear h hb
  go_enter Try.func15, Try.ntmps15
  go_wp2_with fail
  go_ret2
  refine ⟨.slice none 0 0, by rw [HB.out]; rfl, ?_, ?_, grown_refl _ _⟩
  · rw [HO.out.1]; exact World.ownsRow_nil _ _ _ _
  · rw [HO.out.2]; exact HW.out
set_option maxRecDepth 8000 in
set_option maxHeartbeats 4000000 in
theorem xtake_place {w : World} {x : Nat} {s : Sw} (h : Xs w x s) (hok : s.ok) {i : Int} {t : ByteArray} (ht : ¬ 32 < t.size) (hi : i < s.nxt ∨ s.nxt + s.win ≤ i ∨ 32 ≤ i) :
    Calls Try.prog 15 #[.pointer (some ⟨x, 0, none⟩), .int .i64 i, .string t] w (XkP s x i t w) := by
  have HW := hide h
  have hb : s.bad i t = 151 := by unfold Sw.bad; rw [if_neg ht, if_pos hi]
  have HO : Hid (s.out i t = [] ∧ s.tk i t = s) := by
    refine hide ⟨?_, ?_⟩
    · unfold Sw.out; rw [hb]; rfl
    · unfold Sw.tk; rw [hb]; rfl
  have HB := hide hb
  obtain ⟨H, T, hX, _⟩ := h
  have c0 := hX.c0
  have c1 := hX.c1
  have n0 := hok.n0
  have n32 := hok.n32
  have w1 := hok.w1
  have w8 := hok.w8
  have hbt : ∃ bt, decide (i < s.nxt) = bt ∧ ∃ bu, decide (s.nxt + s.win ≤ i) = bu ∧ ∃ bv, decide (32 ≤ i) = bv := ⟨_, rfl, _, rfl, _, rfl⟩
  obtain ⟨bt, e1, bu, e2, bv, e3⟩ := hbt
  have hor : (bt || bu || bv) = true := by
    rw [← e1, ← e2, ← e3]
    simp only [Bool.or_eq_true, decide_eq_true_eq]
    omega
  clear hX hb hi hok
  obtain ⟨win, nxt, L⟩ := s
  simp only at *
  cases bt
  · cases bu
    · cases bv
      · simp at hor
      · go_enter Try.func15, Try.ntmps15
        go_wp2_with fail
        go_quiet (fail)
        go_wp2_with fail
        go_ret2
        refine ⟨.slice none 0 0, by rw [HB.out]; rfl, ?_, ?_, grown_drewN (grown_refl _ _) _⟩
        · rw [HO.out.1]; exact World.ownsRow_nil _ _ _ _
        · rw [HO.out.2]; exact HW.out.below (below_drewN _ _)
    · go_enter Try.func15, Try.ntmps15
      go_wp2_with fail
      go_quiet (fail)
      go_wp2_with fail
      go_ret2
      refine ⟨.slice none 0 0, by rw [HB.out]; rfl, ?_, ?_, grown_drewN (grown_refl _ _) _⟩
      · rw [HO.out.1]; exact World.ownsRow_nil _ _ _ _
      · rw [HO.out.2]; exact HW.out.below (below_drewN _ _)
  · go_enter Try.func15, Try.ntmps15
    go_wp2_with fail
    go_quiet (fail)
    go_wp2_with fail
    go_ret2
    refine ⟨.slice none 0 0, by rw [HB.out]; rfl, ?_, ?_, grown_drewN (grown_refl _ _) _⟩
    · rw [HO.out.1]; exact World.ownsRow_nil _ _ _ _
    · rw [HO.out.2]; exact HW.out.below (below_drewN _ _)

set_option maxRecDepth 8000 in
set_option maxHeartbeats 8000000 in
theorem xtake_in {w : World} {x : Nat} {s : Sw} (h : Xs w x s) (hok : s.ok) {i : Int} {t : ByteArray} (hz : s.bad i t = 0) :
    Calls Try.prog 15 #[.pointer (some ⟨x, 0, none⟩), .int .i64 i, .string t] w (XkP s x i t w) := by
  obtain ⟨ht, i0, i1, i2⟩ := s.bad_yes hz
  have n0 := hok.n0
  have n32 := hok.n32
  have w1 := hok.w1
  have w8 := hok.w8
  have HO := hide (tk_one hok hz)
  have HB := hide hz
  have HP : Hid ((∀ y ∈ (if has i s.L then s.L else put ⟨i, t⟩ s.L), y.no < 32) ∧ (if has i s.L then s.L else put ⟨i, t⟩ s.L).length ≤ 1000 ∧ Rise (if has i s.L then s.L else put ⟨i, t⟩ s.L)) := hide (by
    split
    · exact ⟨fun y hy => (hok.all y hy).2.2.1, by have := hok.len8; omega, hok.rise⟩
    · exact ⟨fun y hy => ((hok.put hz).2 y hy).2.2.1, by have := put_len ⟨i, t⟩ s.L; have := hok.len8; omega, put_rise hok.rise _⟩)
  obtain ⟨H0, T0, hX, hLk⟩ := h
  obtain ⟨iS, hiS, zS0, zS1, zS2⟩ := info_parts Try.infoS
  obtain ⟨ik, rfl⟩ : ∃ ik : Nat, i = (ik : Int) := ⟨i.toNat, by omega⟩
  have hik : ik < 32 := by omega
  have hh := (hLk ik hik).1
  have c0 := hX.c0
  have c1 := hX.c1
  have ch := hX.ch hh
  have HX := hide hX
  have HLk := hide hLk
  have HRi := hide hok.rise
  have e1 : decide ((ik : Int) < s.nxt) = false := by simp; omega
  have e2 : decide (s.nxt + s.win ≤ (ik : Int)) = false := by simp; omega
  have e3 : ¬ 32 ≤ ik := by omega
  have ht' : ¬ 32 < t.size := by omega
  obtain ⟨n, hn⟩ : ∃ n : Nat, s.nxt = (n : Int) := ⟨s.nxt.toNat, by omega⟩
  clear hz hok ht i0 i1 i2 hX hLk hh
  obtain ⟨win, nxt, L⟩ := s
  simp only at *
  subst hn
  have hn32 : n ≤ 32 := by omega
  have e1 : ¬ ik < n := by simp at e1; omega
  obtain ⟨hbL, hhL⟩ : ∃ q, has (ik : Int) L = q := ⟨_, rfl⟩
  rw [hhL] at ch HO HP
  obtain ⟨M0, hM0⟩ : ∃ M0, (if hbL then L else put ⟨ik, t⟩ L) = M0 := ⟨_, rfl⟩
  rw [hM0] at HO HP
  go_enter Try.func15, Try.ntmps15
  go_wp2_with fail
  go_quiet (fail)
  have HX2 := hide (HX.out.below (below_drewN w nq))
  have HG2 := hide (grown_drewN (grown_refl w (some x)) nq)
  generalize w.drewN nq = wb at HX2 HG2 ⊢
  have ch := HX2.out.ch (show H0[ik]? = some hbL from by rw [← hhL]; exact (HLk.out ik hik).1)
  have HM0 := hide hM0
  have HhL := hide hhL
  have hltx : x < wb.heap.size := HX2.out.lt
  clear hM0 hhL c0 c1 e1 e2
  go_upto_if 41 with fail
  go_cut [41] (fun _ wc => Hid (∃ H T, Xb wc x win (n : Int) H T ∧ LkM M0 H T ∧ w.grownBy wc (some x)))
  case first =>
    cases hbL with
    | true =>
      go_wp2_with fail
      go_meet
      case rel => exact hide ⟨H0, T0, HX2.out, by rw [← HM0.out]; exact HLk.out, HG2.out⟩
    | false =>
      have z1 := HX2.out.z (2 + ik)
      have HX3 := hide (HX2.out.setH hik true)
      have z2 := HX3.out.z (34 + ik)
      have k4 := HX3.out.ct (i := ik) (List.getElem?_eq_getElem (show ik < T0.length by rw [HX2.out.tl]; exact hik))
      generalize T0[ik]'(show ik < T0.length by rw [HX2.out.tl]; exact hik) = told at k4
      go_wp2_with fail
      go_meet
      case rel =>
        refine hide ⟨H0.set ik true, T0.set ik t, HX3.out.setT t, by rw [← HM0.out]; exact HLk.out.put HRi.out HX2.out.hl HX2.out.tl hik t, ?_⟩
        exact grown_trans HG2.out (grown_trans (grown_set wb x _ _) (grown_set _ x _ _))
  case rest =>
    have HC := hide hcut.out
    clear hcut HX2 HG2 HX HLk ch hltx HRi HM0 HhL
    go_wp2_with fail
    go_loopw [8] (fun u wr => ∃ (out : List ByteArray) (k : Nat) (M : List Hx) (H : List Bool) (T : List ByteArray), k ≤ 32 ∧ Hid (wr.ownsRow w.heap.size 9 1 u out.length (tcs out)) ∧ Hid (Xb wr x win (k : Int) H T ∧ LkM M H T ∧ Rise M) ∧ Hid (w.grownBy wr (some x)) ∧ Hid ((out ++ (hnd k M).1 = (hnd n M0).1 ∧ (hnd k M).2 = (hnd n M0).2) ∧ (∀ y ∈ M, y.no < 32) ∧ out.length + M.length ≤ 1000)) (fun _ wr => (33 - xn wr x).toNat)
    case atStart =>
      obtain ⟨H, T, q1, q2, q3⟩ := HC.out
      refine ⟨[], n, M0, H, T, hn32, own_str0 (heap_alloc_new _ _) q3.size, hide ⟨q1.below (below_alloc _ _), q2, HP.out.2.2⟩, hide (grown_trans q3 (grown_below (below_alloc _ _) _)), hide ⟨⟨rfl, rfl⟩, HP.out.1, by simpa using HP.out.2.1⟩⟩
    case round =>
      clear HC
      obtain ⟨out, k, M, H, T, hk32, HOw, HX, HG, HE⟩ := hrel
      obtain ⟨ad, cap, rfl⟩ := own_slice HOw.out
      have c1 := HX.out.1.c1
      have hltx : x < wr.heap.size := HX.out.1.lt
      cases hb : has (k : Int) M with
      | false =>
        have HH := hide (hnd_no hb)
        by_cases hk : k < 32
        · have ch := HX.out.1.ch (show H[k]? = some false from by rw [← hb]; exact (HX.out.2.1 k hk).1)
          have d32 : decide ((k : Int) < 32) = true := decide_eq_true (by omega)
          clear hb
          go_wp2_with fail
          go_quiet (fail)
          go_wp2_with fail
          go_ret2
          have e1 := HE.out.1
          rw [HH.out] at e1
          simp only [List.append_nil] at e1
          refine ⟨.slice ad out.length cap, by rw [HB.out]; rfl, ?_, ?_, grown_drewN HG.out _⟩
          · rw [HO.out.1, ← e1.1]; exact own_below HOw.out (below_drewN _ _)
          · rw [HO.out.2, ← e1.2]; exact ⟨H, T, HX.out.1.below (below_drewN _ _), HX.out.2.1⟩
        · have d32 : decide ((k : Int) < 32) = false := decide_eq_false (by omega)
          clear hb
          go_wp2_with fail
          go_quiet (fail)
          go_wp2_with fail
          go_ret2
          have e1 := HE.out.1
          rw [HH.out] at e1
          simp only [List.append_nil] at e1
          refine ⟨.slice ad out.length cap, by rw [HB.out]; rfl, ?_, ?_, grown_drewN HG.out _⟩
          · rw [HO.out.1, ← e1.1]; exact own_below HOw.out (below_drewN _ _)
          · rw [HO.out.2, ← e1.2]; exact ⟨H, T, HX.out.1.below (below_drewN _ _), HX.out.2.1⟩
      | true =>
        have hk : k < 32 := by
          have h1 := fnd_mem hb
          have := HE.out.2.1 _ h1.1
          omega
        obtain ⟨tx, htx⟩ : ∃ tx, (fnd (k : Int) M).tx = tx := ⟨_, rfl⟩
        have ch := HX.out.1.ch (show H[k]? = some true from by rw [← hb]; exact (HX.out.2.1 k hk).1)
        have HTx : Hid (T[k]? = some tx) := hide (by rw [← htx]; exact (HX.out.2.1 k hk).2 hb)
        have HHk : Hid (H[k]? = some true) := hide (by rw [← hb]; exact (HX.out.2.1 k hk).1)
        have HH := hide (hnd_yes hb)
        have HL := hide (del_lt hb)
        have HZ : Hid (xn wr x = (k : Int)) := HX.out.1.xn
        have HLk := hide HX.out.2
        have HX9h : Hid (H.length = 32) := HX.out.1.hl
        rw [htx] at HH
        have d32 : decide ((k : Int) < 32) = true := decide_eq_true (by omega)
        clear hb htx
        go_wp2_with fail
        go_quiet (fail)
        have HX2 := hide (HX.out.1.below (below_drewN wr nq))
        have HO2 := hide (own_below HOw.out (below_drewN wr nq))
        have HG2 := hide (grown_drewN HG.out nq)
        clear HX HOw HG c1 ch hltx
        generalize wr.drewN nq = wa at HX2 HO2 HG2
        have hkI : (k : Int) < 32 := by omega
        have HSz : Hid (w.heap.size ≤ wa.heap.size) := HG2.out.size
        have hol : out.length ≤ 1000 := by have := HE.out.2.2; omega
        have HOA : Hid ((wa.drew.alloc (.cells #[.string tx] 9)).ownsRow w.heap.size 9 1 (.slice ad out.length cap) out.length (tcs out)) := own_alloc HO2.out _
        have hap : Hid (∀ g, (Value.slice ad out.length cap).ownBlock = some g → w.heap.size ≤ g) := hide fun g e => (HO2.out.lt g e).1
        have HS0 := hide (And.intro HX2.out.c1 (HX2.out.ct HTx.out))
        go_wp2_with fail
        refine wp_region_held_drew (S := fun w' => w'.cell? ⟨x, 1, none⟩ = some (.int .i64 (k : Int)) ∧ w'.cell? ⟨x, 34 + k, none⟩ = some (.string tx)) (by kernel_rfl) (HS0.out) (fun hHeld => ?_)
        refine wpAnyH_take (i := 0) (v := .slice ad out.length cap) rfl (by kernel_rfl) (by kernel_rfl) (by kernel_rfl) (fun _ _ _ h => h) (Or.inl ⟨by kernel_rfl, fun w1 hSw => by clear hHeld HS0; obtain ⟨k1, k2⟩ := hSw; go_simp⟩) hHeld ?_
        try simp only [Act.put]
        try simp only [List.getElem_toArray]
        try simp only [List.getElem_cons_succ]
        try simp only [List.getElem_cons_zero]
        try simp only [List.setIfInBounds_toArray]
        try simp only [List.set_cons_succ, List.set_cons_zero]
        refine wpAnyH_take (i := 1) (v := .pointer (some ⟨x, 0, none⟩)) rfl (by kernel_rfl) (by kernel_rfl) (by kernel_rfl) (fun _ _ _ h => h) (Or.inl ⟨by kernel_rfl, fun w1 hSw => by clear hHeld HS0; obtain ⟨k1, k2⟩ := hSw; go_simp⟩) hHeld ?_
        try simp only [Act.put]
        try simp only [List.getElem_toArray]
        try simp only [List.getElem_cons_succ]
        try simp only [List.getElem_cons_zero]
        try simp only [List.setIfInBounds_toArray]
        try simp only [List.set_cons_succ, List.set_cons_zero]
        refine wpAnyH_take (i := 2) (v := .pointer (some ⟨x, 0, none⟩)) rfl (by kernel_rfl) (by kernel_rfl) (by kernel_rfl) (fun _ _ _ h => h) (Or.inl ⟨by kernel_rfl, fun w1 hSw => by clear hHeld HS0; obtain ⟨k1, k2⟩ := hSw; go_simp⟩) hHeld ?_
        try simp only [Act.put]
        try simp only [List.getElem_toArray]
        try simp only [List.getElem_cons_succ]
        try simp only [List.getElem_cons_zero]
        try simp only [List.setIfInBounds_toArray]
        try simp only [List.set_cons_succ, List.set_cons_zero]
        refine wpAnyH_take (i := 3) (v := .pointer (some ⟨x, 0, none⟩)) rfl (by kernel_rfl) (by kernel_rfl) (by kernel_rfl) (fun _ _ _ h => h) (Or.inl ⟨by kernel_rfl, fun w1 hSw => by clear hHeld HS0; obtain ⟨k1, k2⟩ := hSw; go_simp⟩) hHeld ?_
        try simp only [Act.put]
        try simp only [List.getElem_toArray]
        try simp only [List.getElem_cons_succ]
        try simp only [List.getElem_cons_zero]
        try simp only [List.setIfInBounds_toArray]
        try simp only [List.set_cons_succ, List.set_cons_zero]
        refine wpAnyH_take (i := 4) (v := .pointer (some ⟨x, 1, none⟩)) rfl (by kernel_rfl) (by kernel_rfl) (by kernel_rfl) (fun _ _ _ h => h) (Or.inl ⟨by kernel_rfl, fun w1 hSw => by clear hHeld HS0; obtain ⟨k1, k2⟩ := hSw; go_simp⟩) hHeld ?_
        try simp only [Act.put]
        try simp only [List.getElem_toArray]
        try simp only [List.getElem_cons_succ]
        try simp only [List.getElem_cons_zero]
        try simp only [List.setIfInBounds_toArray]
        try simp only [List.set_cons_succ, List.set_cons_zero]
        refine wpAnyH_take (i := 5) (v := .int .i64 (k : Int)) rfl (by kernel_rfl) (by kernel_rfl) (by kernel_rfl) (fun _ _ _ h => h) (Or.inl ⟨by kernel_rfl, fun w1 hSw => by clear hHeld HS0; obtain ⟨k1, k2⟩ := hSw; go_simp⟩) hHeld ?_
        try simp only [Act.put]
        try simp only [List.getElem_toArray]
        try simp only [List.getElem_cons_succ]
        try simp only [List.getElem_cons_zero]
        try simp only [List.setIfInBounds_toArray]
        try simp only [List.set_cons_succ, List.set_cons_zero]
        refine wpAnyH_take (i := 6) (v := .pointer (some ⟨x, 0, none⟩)) rfl (by kernel_rfl) (by kernel_rfl) (by kernel_rfl) (fun _ _ _ h => h) (Or.inl ⟨by kernel_rfl, fun w1 hSw => by clear hHeld HS0; obtain ⟨k1, k2⟩ := hSw; go_simp⟩) hHeld ?_
        try simp only [Act.put]
        try simp only [List.getElem_toArray]
        try simp only [List.getElem_cons_succ]
        try simp only [List.getElem_cons_zero]
        try simp only [List.setIfInBounds_toArray]
        try simp only [List.set_cons_succ, List.set_cons_zero]
        refine wpAnyH_take (i := 7) (v := .pointer (some ⟨x, 34, none⟩)) rfl (by kernel_rfl) (by kernel_rfl) (by kernel_rfl) (fun _ _ _ h => h) (Or.inl ⟨by kernel_rfl, fun w1 hSw => by clear hHeld HS0; obtain ⟨k1, k2⟩ := hSw; go_simp⟩) hHeld ?_
        try simp only [Act.put]
        try simp only [List.getElem_toArray]
        try simp only [List.getElem_cons_succ]
        try simp only [List.getElem_cons_zero]
        try simp only [List.setIfInBounds_toArray]
        try simp only [List.set_cons_succ, List.set_cons_zero]
        refine wpAnyH_take (i := 8) (v := .pointer (some ⟨x, 34 + k, none⟩)) rfl (by kernel_rfl) (by kernel_rfl) (by kernel_rfl) (fun _ _ _ h => h) (Or.inl ⟨by kernel_rfl, fun w1 hSw => by clear hHeld HS0; obtain ⟨k1, k2⟩ := hSw; go_simp⟩) hHeld ?_
        try simp only [Act.put]
        try simp only [List.getElem_toArray]
        try simp only [List.getElem_cons_succ]
        try simp only [List.getElem_cons_zero]
        try simp only [List.setIfInBounds_toArray]
        try simp only [List.set_cons_succ, List.set_cons_zero]
        refine wpAnyH_take (i := 9) (v := .string tx) rfl (by kernel_rfl) (by kernel_rfl) (by kernel_rfl) (fun _ _ _ h => h) (Or.inl ⟨by kernel_rfl, fun w1 hSw => by clear hHeld HS0; obtain ⟨k1, k2⟩ := hSw; go_simp⟩) hHeld ?_
        try simp only [Act.put]
        try simp only [List.getElem_toArray]
        try simp only [List.getElem_cons_succ]
        try simp only [List.getElem_cons_zero]
        try simp only [List.setIfInBounds_toArray]
        try simp only [List.set_cons_succ, List.set_cons_zero]
        refine wpAnyH_ready (rs := [10]) (by kernel_rfl) (by simp) ?_
        refine AllReadyH.cons rfl (fun K hK => ?_) AllReadyH.nil
        go_simp
        have HXA := hide (HX2.out.below (below_alloc wa (.cells #[.string tx] 9)))
        have HSA := hide (And.intro HXA.out.c1 (HXA.out.ct HTx.out))
        refine hK.out _ _ (HSA.out) (fun hHeld => ?_)
        clear hK K
        try simp only [Act.put]
        try simp only [List.getElem_toArray]
        try simp only [List.getElem_cons_succ]
        try simp only [List.getElem_cons_zero]
        try simp only [List.setIfInBounds_toArray]
        try simp only [List.set_cons_succ, List.set_cons_zero]
        refine wpAnyH_ready (rs := [11]) (by kernel_rfl) (by simp) ?_
        refine AllReadyH.cons rfl (fun K hK => ?_) AllReadyH.nil
        refine step_append_lies _ rfl (.tmp 70) (.tmp 80) 43 rfl w.heap.size 9 iS (.string ByteArray.empty) 1 16 Try.underlying43 hiS zS0 zS1 zS2 rfl (by decide) (.slice ad out.length cap) out.length (tcs out) rfl HOA.out ⟨wa.heap.size, 0, none⟩ 1 1 [.string tx] rfl rfl (one_new wa.drew _ _) (by intro u hu; simp at hu; subst hu; rfl) (by decide) (by unfold maxLen; omega) (by omega) (by show w.heap.size ≤ (wa.alloc (.cells #[.string tx] 9)).heap.size; rw [World.size_alloc]; have := HSz.out; omega) _ rfl ?_
        intro g7 cap7 w7 hown7 hgrow7 hat7 hlt7
        have HO7 := hide hown7
        have HX7 : Hid (Xb w7 x win (k : Int) H T) := hide (HXA.out.keep (hgrow7.block x HXA.out.lt fun e => by obtain ⟨cs, h6⟩ := own_type HOA.out x e.symm; rw [show (wa.drew.alloc (.cells #[.string tx] 9)).heap[x]? = _ from HXA.out.blk] at h6; cases h6))
        have HG7 := hide (grown_more HG2.out hgrow7 hap.out)
        have HS7 := hide (And.intro HX7.out.c1 (HX7.out.ct HTx.out))
        have HG8 : Hid (∀ k2, (Value.slice (some ⟨g7, 0, none⟩) (out.length + 1) cap7).ownBlock = some k2 → w.heap.size ≤ k2) := hide fun k2 e => (HO7.out.lt k2 e).1
        clear hown7 hgrow7 hat7 hlt7
        refine hK.out _ _ (HS7.out) (fun hHeld => ?_)
        clear hK K
        try simp only [Act.put]
        try simp only [List.getElem_toArray]
        try simp only [List.getElem_cons_succ]
        try simp only [List.getElem_cons_zero]
        try simp only [List.setIfInBounds_toArray]
        try simp only [List.set_cons_succ, List.set_cons_zero]
        refine wpAnyH_take (i := 12) (v := .slice (some ⟨g7, 0, none⟩) (out.length + 1) cap7) rfl (by kernel_rfl) (by kernel_rfl) (by kernel_rfl) (fun _ _ _ h => h) (Or.inl ⟨by kernel_rfl, fun w1 hSw => by clear hHeld HS0; obtain ⟨k1, k2⟩ := hSw; go_simp⟩) hHeld ?_
        try simp only [Act.put]
        try simp only [List.getElem_toArray]
        try simp only [List.getElem_cons_succ]
        try simp only [List.getElem_cons_zero]
        try simp only [List.setIfInBounds_toArray]
        try simp only [List.set_cons_succ, List.set_cons_zero]
        refine wpAnyH_done (by kernel_rfl) ?_ _
        have d1 := HX7.out.c1
        have d2 := HX7.out.z (2 + k)
        have d3 := HX7.out.ch (show H[k]? = some true from HHk.out)
        have hlt7 : x < w7.heap.size := HX7.out.lt
        have HX8 := hide (HX7.out.setH hk false)
        clear HX2 HO2 HG2 HOA HS0 HS7 HSA HXA
        go_wp2_with fail
        go_region
        have HX9 : Hid (Xb ((w7.setCell ⟨x, 2 + k, none⟩ (.bool false)).drew) x win (k : Int) (H.set k false) T) := hide (HX8.out.keep rfl)
        have HG9 : Hid (w.grownBy ((w7.setCell ⟨x, 2 + k, none⟩ (.bool false)).drew) (some x)) := hide (grown_drewN (grown_trans HG7.out (grown_set w7 x _ _)) 1)
        have HO9 : Hid (((w7.setCell ⟨x, 2 + k, none⟩ (.bool false)).drew).ownsRow w.heap.size 9 1 (.slice (some ⟨g7, 0, none⟩) (out.length + 1) cap7) (out.length + 1) (tcs out ++ [.string tx])) := by
          refine own_keep HO7.out fun g e => (grown_set w7 x (2 + k) (.bool false)).block g (HO7.out.lt g e).2 fun e2 => ?_
          obtain ⟨cs, h6⟩ := own_type HO7.out g e
          cases e2
          rw [HX7.out.blk] at h6
          cases h6
        clear HX8 HG7 HO7 d1 d2 d3 HX7 HG8 hlt7
        generalize (w7.setCell ⟨x, 2 + k, none⟩ (.bool false)).drew = w8 at HX9 HG9 HO9 ⊢
        have c1 := HX9.out.c1
        have z1 := HX9.out.z 1
        have HX10 : Hid (Xb (w8.setCell ⟨x, 1, none⟩ (.int .i64 ((k : Int) + 1))) x win ((k : Int) + 1) (H.set k false) T) := hide (HX9.out.setN _)
        go_wp2_with fail
        have e1 := HE.out
        have e2 := HL.out
        rw [HH.out] at e1
        refine ⟨⟨out ++ [tx], k + 1, del (k : Int) M, H.set k false, T, by omega, ?_, ⟨?_, HLk.out.1.del HLk.out.2 HX9h.out, del_rise HLk.out.2 _⟩, grown_trans HG9.out (grown_set w8 x _ _), ⟨⟨?_, ?_⟩, mem_del' e1.2.1, ?_⟩⟩, ?_⟩
        · rw [tcs_snoc, List.length_append]
          refine hide (own_keep HO9.out fun g e => (grown_set w8 x 1 _).block g (HO9.out.lt g e).2 fun e2 => ?_)
          obtain ⟨cs, h6⟩ := own_type HO9.out g e
          cases e2
          rw [HX9.out.blk] at h6
          cases h6
        · exact HX10.out
        · rw [List.append_assoc]; exact e1.1.1
        · exact e1.1.2
        · have := e1.2.2
          rw [List.length_append]
          simp only [List.length_singleton]
          omega
        · rw [HZ.out, HX10.out.xn]; omega
/-- the document's Take, whatever comes -/
theorem xtake_any {w : World} {x : Nat} {s : Sw} (h : Xs w x s) (hok : s.ok) (i : Int) (t : ByteArray) :
    Calls Try.prog 15 #[.pointer (some ⟨x, 0, none⟩), .int .i64 i, .string t] w (XkP s x i t w) := by
  by_cases ht : 32 < t.size
  · exact xtake_text h ht
  by_cases hi : i < s.nxt ∨ s.nxt + s.win ≤ i ∨ 32 ≤ i
  · exact xtake_place h hok ht hi
  exact xtake_in h hok (by unfold Sw.bad; rw [if_neg ht, if_neg hi])
end Go.Proofs.Ytmkfhcdmcncgkaa
