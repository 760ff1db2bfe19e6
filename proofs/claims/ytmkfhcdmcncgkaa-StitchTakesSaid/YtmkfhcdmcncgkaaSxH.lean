import Derived.Test.YtmkfhcdmcncgkaaSxG
namespace Go.Proofs.Ytmkfhcdmcncgkaa
open Go.RowKit Go.Shelf

/-- a stitcher -/
structure Sw where
  win : Int
  nxt : Int
  L : List Hx
structure Sw.ok (s : Sw) : Prop where
  w1 : 1 ≤ s.win
  w8 : s.win ≤ 8
  n0 : 0 ≤ s.nxt
  n32 : s.nxt ≤ 32
  rise : Rise s.L
  all : ∀ x ∈ s.L, s.nxt < x.no ∧ x.no < s.nxt + s.win ∧ x.no < 32 ∧ x.tx.size ≤ 32
/-- what Take answers -/
def Sw.bad (s : Sw) (i : Int) (t : ByteArray) : Int := if 32 < t.size then 152 else if i < s.nxt ∨ s.nxt + s.win ≤ i ∨ 32 ≤ i then 151 else 0
def Sw.hand (s : Sw) (i : Int) (t : ByteArray) : List ByteArray × Int × List Hx := hnd s.nxt (put ⟨i, t⟩ s.L)
/-- what it hands on -/
def Sw.out (s : Sw) (i : Int) (t : ByteArray) : List ByteArray := if s.bad i t = 0 then (if has i s.L = true then [] else (s.hand i t).1) else []
/-- how it stands behind -/
def Sw.tk (s : Sw) (i : Int) (t : ByteArray) : Sw := if s.bad i t = 0 then (if has i s.L = true then s else ⟨s.win, (s.hand i t).2.1, (s.hand i t).2.2⟩) else s

theorem rise_len {c : Int} : ∀ {L : List Hx} {a : Int}, a < c → Rise L → (∀ x ∈ L, a < x.no ∧ x.no < c) → (L.length : Int) ≤ c - a - 1
  | [], a, h, _, _ => by simp; omega
  | x :: l, a, h, hr, hx => by
    obtain ⟨h1, h2⟩ := List.pairwise_cons.1 hr
    obtain ⟨h3, h4⟩ := hx x (.head _)
    have := rise_len (a := x.no) h4 h2 fun y hy => ⟨h1 y hy, (hx y (.tail _ hy)).2⟩
    rw [List.length_cons]
    omega
theorem Sw.ok.len {s : Sw} (h : s.ok) : (s.L.length : Int) ≤ s.win - 1 := by
  have := rise_len (a := s.nxt) (c := s.nxt + s.win) (by have := h.w1; omega) h.rise fun x hx => ⟨(h.all x hx).1, (h.all x hx).2.1⟩
  omega
theorem Sw.ok.len8 {s : Sw} (h : s.ok) : s.L.length ≤ 7 := by have := h.len; have := h.w8; omega
theorem put_len (x : Hx) (L : List Hx) : (put x L).length ≤ L.length + 1 := by
  unfold put
  rw [(ins_perm x _).length_eq, List.length_cons]
  exact Nat.succ_le_succ (List.length_filter_le _ _)
/-- what is handed on, and how it stands behind -/
structure HndP (n : Int) (L : List Hx) (c : Int) (r : List ByteArray × Int × List Hx) : Prop where
  le : n ≤ r.2.1
  len : (r.1.length : Int) = r.2.1 - n
  rise : Rise r.2.2
  all : ∀ x ∈ r.2.2, x ∈ L ∧ r.2.1 < x.no
  top : r.2.1 ≤ n ∨ r.2.1 ≤ c
  get : ∀ j (h : j < r.1.length), (⟨n + j, r.1[j]⟩ : Hx) ∈ L
theorem hnd_post {c : Int} : ∀ (k : Nat) {n : Int} {L : List Hx}, L.length ≤ k → Rise L → (∀ x ∈ L, n ≤ x.no ∧ x.no < c) → HndP n L c (hnd n L)
  | k, n, L, hk, hr, hx => by
    cases hb : has n L with
    | false =>
      rw [hnd_no hb]
      exact ⟨Int.le_refl _, by simp, hr, fun x h => ⟨h, by have h1 := has_false.1 hb x h; have := (hx x h).1; show n < x.no; omega⟩, .inl (Int.le_refl _), fun j h => absurd h (by simp)⟩
    | true =>
      obtain ⟨h1, h2⟩ := fnd_mem hb
      have hd := del_lt hb
      match k with
      | 0 => omega
      | k + 1 =>
        have ih := hnd_post (c := c) k (n := n + 1) (L := del n L) (by omega) (del_rise hr n) fun x h => by
          obtain ⟨h3, h4⟩ := mem_del.1 h
          have := hx x h3
          omega
        rw [hnd_yes hb]
        refine ⟨by have := ih.le; show n ≤ _; simp only; omega, ?_, ih.rise, fun x h => ?_, ?_, fun j hj => ?_⟩
        · have := ih.len
          simp only [List.length_cons]
          omega
        · obtain ⟨h3, h4⟩ := ih.all x h
          exact ⟨(mem_del.1 h3).1, h4⟩
        · rcases ih.top with h3 | h3
          · have := (hx _ h1).2
            refine .inr ?_
            simp only
            omega
          · exact .inr h3
        · match j, hj with
          | 0, _ =>
            simp only [List.getElem_cons_zero]
            have e : (⟨n + ((0 : Nat) : Int), (fnd n L).tx⟩ : Hx) = fnd n L := by
              cases hf : fnd n L with
              | mk a t => rw [hf] at h2; simp only at h2; simp [h2]
            rw [e]
            exact h1
          | j + 1, hj =>
            simp only [List.getElem_cons_succ]
            have h3 := ih.get j (by simpa using hj)
            rw [show n + ((j + 1 : Nat) : Int) = n + 1 + (j : Int) by omega]
            exact (mem_del.1 h3).1
theorem Sw.bad_yes {s : Sw} {i : Int} {t : ByteArray} (h : s.bad i t = 0) : t.size ≤ 32 ∧ s.nxt ≤ i ∧ i < s.nxt + s.win ∧ i < 32 := by
  unfold Sw.bad at h
  split at h
  · cases h
  · split at h
    · cases h
    · omega
theorem Sw.ok.put {s : Sw} (h : s.ok) {i : Int} {t : ByteArray} (hb : s.bad i t = 0) : HndP s.nxt (put ⟨i, t⟩ s.L) 32 (s.hand i t) ∧ (∀ x ∈ Go.Proofs.Ytmkfhcdmcncgkaa.put ⟨i, t⟩ s.L, s.nxt ≤ x.no ∧ x.no < s.nxt + s.win ∧ x.no < 32 ∧ x.tx.size ≤ 32) := by
  obtain ⟨h1, h2, h3, h4⟩ := s.bad_yes hb
  have hp : ∀ x ∈ Go.Proofs.Ytmkfhcdmcncgkaa.put ⟨i, t⟩ s.L, s.nxt ≤ x.no ∧ x.no < s.nxt + s.win ∧ x.no < 32 ∧ x.tx.size ≤ 32 := fun x hx => by
    rcases mem_put.1 hx with rfl | ⟨hx, _⟩
    · exact ⟨h2, h3, h4, h1⟩
    · have := h.all x hx
      omega
  exact ⟨hnd_post _ (Nat.le_refl _) (put_rise h.rise _) fun x hx => ⟨(hp x hx).1, (hp x hx).2.2.1⟩, hp⟩
theorem Sw.ok.tk {s : Sw} (h : s.ok) (i : Int) (t : ByteArray) : (s.tk i t).ok := by
  unfold Sw.tk
  split
  · rename_i hb
    split
    · exact h
    · obtain ⟨hp, ha⟩ := h.put hb
      refine ⟨h.w1, h.w8, by have := hp.le; have := h.n0; simp only; omega, ?_, hp.rise, fun x hx => ?_⟩
      · have := h.n32
        rcases hp.top with h1 | h1
        · simp only; omega
        · exact h1
      · obtain ⟨h1, h2⟩ := hp.all x hx
        have := ha x h1
        have := hp.le
        simp only
        omega
  · exact h
theorem Sw.tk_win (s : Sw) (i : Int) (t : ByteArray) : (s.tk i t).win = s.win := by
  unfold Sw.tk
  split
  · split <;> rfl
  · rfl
theorem ok_new {a c : Int} (h : nok a c = true) : (Sw.mk a c []).ok := by
  have h' : 1 ≤ a ∧ a ≤ 8 ∧ 0 ≤ c ∧ c ≤ 32 := by simpa [nok] using h
  exact ⟨h'.1, h'.2.1, h'.2.2.1, h'.2.2.2, .nil, fun x hx => by cases hx⟩

/-- a stitcher in memory -/
abbrev Sb (w : World) (b m : Nat) (s : Sw) : Prop := Wb w b m s.win s.nxt s.L
/-- behind a Take -/
def TkP (s : Sw) (b m : Nat) (i : Int) (t : ByteArray) (w : World) (e : Ending) (w' : World) : Prop :=
  ∃ v, e = .returned (.tuple #[v, .int .i64 (s.bad i t)]) ∧ w'.ownsRow w.heap.size 9 1 v (s.out i t).length (tcs (s.out i t)) ∧ Sb w' b m (s.tk i t) ∧ Mv b m w w'

set_option maxRecDepth 8000 in
set_option maxHeartbeats 4000000 in
theorem take_text {w : World} {b m : Nat} {s : Sw} (h : Sb w b m s) {i : Int} {t : ByteArray} (ht : 32 < t.size) :
    Calls Try.prog 12 #[.pointer (some ⟨b, 0, none⟩), .int .i64 i, .string t] w (TkP s b m i t w) := by
  have HW := hide h
  have hb : s.bad i t = 152 := by unfold Sw.bad; rw [if_pos ht]
  have HO : Hid (s.out i t = [] ∧ s.tk i t = s) := by
    refine hide ⟨?_, ?_⟩
    · unfold Sw.out; rw [hb]; rfl
    · unfold Sw.tk; rw [hb]; rfl
  have HB := hide hb
  clear h hb
  go_enter Try.func12, Try.ntmps12
  go_wp2_with fail
  go_ret2
  refine ⟨.slice none 0 0, by rw [HB.out]; rfl, ?_, ?_, Mv.refl _ _ _⟩
  · rw [HO.out.1]; exact World.ownsRow_nil _ _ _ _
  · rw [HO.out.2]; exact HW.out
set_option maxRecDepth 8000 in
set_option maxHeartbeats 4000000 in
theorem take_place {w : World} {b m : Nat} {s : Sw} (h : Sb w b m s) (hok : s.ok) {i : Int} {t : ByteArray} (ht : ¬ 32 < t.size) (hi : i < s.nxt ∨ s.nxt + s.win ≤ i ∨ 32 ≤ i) :
    Calls Try.prog 12 #[.pointer (some ⟨b, 0, none⟩), .int .i64 i, .string t] w (TkP s b m i t w) := by
  have HW := hide h
  have hb : s.bad i t = 151 := by unfold Sw.bad; rw [if_neg ht, if_pos hi]
  have HO : Hid (s.out i t = [] ∧ s.tk i t = s) := by
    refine hide ⟨?_, ?_⟩
    · unfold Sw.out; rw [hb]; rfl
    · unfold Sw.tk; rw [hb]; rfl
  have HB := hide hb
  have c0 := h.c0
  have c1 := h.c1
  have n0 := hok.n0
  have n32 := hok.n32
  have w1 := hok.w1
  have w8 := hok.w8
  have hbt : ∃ bt, decide (i < s.nxt) = bt ∧ ∃ bu, decide (s.nxt + s.win ≤ i) = bu ∧ ∃ bv, decide (32 ≤ i) = bv := ⟨_, rfl, _, rfl, _, rfl⟩
  obtain ⟨bt, e1, bu, e2, bv, e3⟩ := hbt
  have hor : (bt || bu || bv) = true := by
    rw [← e1, ← e2, ← e3]
    simp only [Bool.or_eq_true, decide_eq_true_eq]
    omega
  clear h hb hi hok
  obtain ⟨win, nxt, L⟩ := s
  simp only at *
  have ht' : decide (32 < t.size) = false := by simpa using ht
  cases bt
  · cases bu
    · cases bv
      · simp at hor
      · go_enter Try.func12, Try.ntmps12
        go_wp2_with fail
        go_quiet (fail)
        go_wp2_with fail
        go_ret2
        refine ⟨.slice none 0 0, by rw [HB.out]; rfl, ?_, ?_, Mv.of_below (below_drewN _ _)⟩
        · rw [HO.out.1]; exact World.ownsRow_nil _ _ _ _
        · rw [HO.out.2]; exact HW.out.below (below_drewN _ _)
    · go_enter Try.func12, Try.ntmps12
      go_wp2_with fail
      go_quiet (fail)
      go_wp2_with fail
      go_ret2
      refine ⟨.slice none 0 0, by rw [HB.out]; rfl, ?_, ?_, Mv.of_below (below_drewN _ _)⟩
      · rw [HO.out.1]; exact World.ownsRow_nil _ _ _ _
      · rw [HO.out.2]; exact HW.out.below (below_drewN _ _)
  · go_enter Try.func12, Try.ntmps12
    go_wp2_with fail
    go_quiet (fail)
    go_wp2_with fail
    go_ret2
    refine ⟨.slice none 0 0, by rw [HB.out]; rfl, ?_, ?_, Mv.of_below (below_drewN _ _)⟩
    · rw [HO.out.1]; exact World.ownsRow_nil _ _ _ _
    · rw [HO.out.2]; exact HW.out.below (below_drewN _ _)
set_option maxRecDepth 8000 in
set_option maxHeartbeats 4000000 in
theorem take_there {w : World} {b m : Nat} {s : Sw} (h : Sb w b m s) (hok : s.ok) {i : Int} {t : ByteArray} (hz : s.bad i t = 0) (hh : has i s.L = true) :
    Calls Try.prog 12 #[.pointer (some ⟨b, 0, none⟩), .int .i64 i, .string t] w (TkP s b m i t w) := by
  have HW := hide h
  obtain ⟨ht, i0, i1, i2⟩ := s.bad_yes hz
  have HO : Hid (s.out i t = [] ∧ s.tk i t = s) := by
    refine hide ⟨?_, ?_⟩
    · unfold Sw.out; rw [hz, if_pos rfl, if_pos hh]
    · unfold Sw.tk; rw [hz, if_pos rfl, if_pos hh]
  have HB := hide hz
  have c0 := h.c0
  have c1 := h.c1
  have c2 := h.c2
  have n0 := hok.n0
  have n32 := hok.n32
  have w1 := hok.w1
  have w8 := hok.w8
  have e1 : decide (i < s.nxt) = false := by simp; omega
  have e2 : decide (s.nxt + s.win ≤ i) = false := by simp; omega
  have e3 : decide (32 ≤ i) = false := by simp; omega
  have ht' : ¬ 32 < t.size := by omega
  obtain ⟨tx, htx⟩ : ∃ tx, (fnd i s.L).tx = tx := ⟨_, rfl⟩
  have hlk : ∀ j, (Instr.lookup 50 (.map (some m)) (.int .i64 i) true).run Try.prog (w.drewN j) = .ok (.tuple #[.string tx, .bool true]) (w.drewN j) := fun j => by
    have := (h.map.keep (w' := w.drewN j) rfl).look i
    rw [hh, show (fnd i s.L).val = .string tx from congrArg Value.string htx] at this
    exact this
  clear h hz hh hok htx ht i0 i1 i2
  obtain ⟨win, nxt, L⟩ := s
  simp only at *
  go_enter Try.func12, Try.ntmps12
  go_wp2_with fail
  go_quiet (fail)
  go_wp2_with fail
  go_ret2
  refine ⟨.slice none 0 0, by rw [HB.out]; rfl, ?_, ?_, Mv.of_below (below_drewN _ _)⟩
  · rw [HO.out.1]; exact World.ownsRow_nil _ _ _ _
  · rw [HO.out.2]; exact HW.out.below (below_drewN _ _)
set_option maxRecDepth 8000 in
set_option maxHeartbeats 4000000 in
theorem take_new {w : World} {b m : Nat} {s : Sw} (h : Sb w b m s) (hok : s.ok) {i : Int} {t : ByteArray} (hz : s.bad i t = 0) (hh : has i s.L = false) :
    Calls Try.prog 12 #[.pointer (some ⟨b, 0, none⟩), .int .i64 i, .string t] w (TkP s b m i t w) := by
  have HW := hide h
  obtain ⟨ht, i0, i1, i2⟩ := s.bad_yes hz
  have HO : Hid (s.out i t = (s.hand i t).1 ∧ s.tk i t = ⟨s.win, (s.hand i t).2.1, (s.hand i t).2.2⟩) := by
    refine hide ⟨?_, ?_⟩
    · unfold Sw.out; rw [hz, if_pos rfl, if_neg (by rw [hh]; decide)]
    · unfold Sw.tk; rw [hz, if_pos rfl, if_neg (by rw [hh]; decide)]
  have HB := hide hz
  have HX : Hid ((∀ x ∈ put ⟨i, t⟩ s.L, x.no < 32) ∧ (put ⟨i, t⟩ s.L).length ≤ 1000 ∧ 0 ≤ s.nxt) := hide ⟨fun x hx => ((hok.put hz).2 x hx).2.2.1, by have := put_len ⟨i, t⟩ s.L; have := hok.len8; omega, hok.n0⟩
  have c0 := h.c0
  have c1 := h.c1
  have c2 := h.c2
  have n0 := hok.n0
  have n32 := hok.n32
  have w1 := hok.w1
  have w8 := hok.w8
  have e1 : decide (i < s.nxt) = false := by simp; omega
  have e2 : decide (s.nxt + s.win ≤ i) = false := by simp; omega
  have e3 : decide (32 ≤ i) = false := by simp; omega
  have ht' : ¬ 32 < t.size := by omega
  obtain ⟨tx, htx⟩ : ∃ tx, (fnd i s.L).tx = tx := ⟨_, rfl⟩
  have hlk : ∀ j, (Instr.lookup 50 (.map (some m)) (.int .i64 i) true).run Try.prog (w.drewN j) = .ok (.tuple #[.string tx, .bool false]) (w.drewN j) := fun j => by
    have := (h.map.keep (w' := w.drewN j) rfl).look i
    rw [hh, show (fnd i s.L).val = .string tx from congrArg Value.string htx] at this
    exact this
  clear h hz hh hok htx ht i0 i1 i2
  unfold Sw.hand at HO
  obtain ⟨win, nxt, L⟩ := s
  simp only at *
  go_enter Try.func12, Try.ntmps12
  go_wp2_with fail
  go_quiet (fail)
  have HW2 := hide (HW.out.below (below_drewN w nq))
  have HM2 := hide (Mv.of_below (b := b) (m := m) (below_drewN w nq))
  obtain ⟨w2, hst, hL2, hg2⟩ := HW2.out.map.store ⟨i, t⟩
  have HW3 := hide (HW2.out.turn hL2 hg2)
  have HM3 := hide (HM2.out.trans (Mv.of_grown hg2))
  have HC := hide (handOn_any HW3.out HX.out.1 HX.out.2.1 HX.out.2.2)
  have HS : Hid (w.heap.size ≤ w2.heap.size) := HM3.out.size
  simp only [Hx.val] at hst
  clear hL2 hg2
  go_wp2_with fail
  refine HC.out.mono ?_
  rintro e w4 ⟨v, rfl, hr4, hw4, hm4⟩
  have HR4 := hide hr4
  have HW4 := hide hw4
  have HM4 := hide hm4
  obtain ⟨adv, capv, hv⟩ := own_slice hr4
  clear hr4 hw4 hm4
  subst hv
  go_wp2_with fail
  go_ret2
  refine ⟨_, by rw [HB.out]; rfl, ?_, ?_, HM3.out.trans HM4.out⟩
  · rw [HO.out.1]; exact ownsRow_base_a HR4.out HS.out
  · rw [HO.out.2]; exact HW4.out
/-- Take, whatever comes -/
theorem take_any {w : World} {b m : Nat} {s : Sw} (h : Sb w b m s) (hok : s.ok) (i : Int) (t : ByteArray) :
    Calls Try.prog 12 #[.pointer (some ⟨b, 0, none⟩), .int .i64 i, .string t] w (TkP s b m i t w) := by
  by_cases ht : 32 < t.size
  · exact take_text h ht
  by_cases hi : i < s.nxt ∨ s.nxt + s.win ≤ i ∨ 32 ≤ i
  · exact take_place h hok ht hi
  have hz : s.bad i t = 0 := by unfold Sw.bad; rw [if_neg ht, if_neg hi]
  cases hh : has i s.L with
  | true => exact take_there h hok hz hh
  | false => exact take_new h hok hz hh
end Go.Proofs.Ytmkfhcdmcncgkaa
