import Derived.Test.YtjabnddjahhgoaaRcQ
import Derived.Deep.OwnRows
namespace Go.Proofs.Ytjabnddjahhgoaa
open Go.RowKit
open Rc (L V Ch)
variable {w0 w1 : World} {A B : Nat} {b : ByteArray} {pre post : List Value}

/-- the reader's state while texts are read into block X -/
structure RdJ (w0 w1 : World) (A B X X0 : Nat) (b : ByteArray) (pre post : List Value) (p : Nat) (c : Ch) (xs : List Value) (w : World) : Prop where
  rd : Rd w B b (p : Int) 0
  hp : p ≤ b.size
  ch : ∃ t, w.heap[A]? = some (.cells (pre ++ (chC c t).toList ++ post).toArray 29 (0, 0))
  xb : w.heap[X]? = some (.cells xs.toArray 9 (0, 0))
  bo : Bo w X0 B
  bel : Below w0.heap.size w0 w
  hA : w0.heap.size ≤ A
  hB : w0.heap.size ≤ B
  hX : w0.heap.size ≤ X
  hX1 : w1.heap.size ≤ X
  size : w1.heap.size ≤ w.heap.size
  kp : ∀ g, g < w1.heap.size → g ≠ A → g ≠ B → w.heap[g]? = w1.heap[g]?
theorem blk_ne {w : World} {X Y : Nat} {cs cs' : Array Value} {t t' : TypeId} (h : w.heap[X]? = some (.cells cs t (0, 0))) (h' : w.heap[Y]? = some (.cells cs' t' (0, 0))) (ht : t ≠ t') : X ≠ Y := by
  rintro rfl
  rw [h] at h'
  simp only [Option.some.injEq, Obj.cells.injEq] at h'
  exact ht h'.2.1
variable {X X0 : Nat} {xs : List Value}
theorem RdJ.XB {p : Nat} {c : Ch} {w : World} (h : RdJ w0 w1 A B X X0 b pre post p c xs w) : X ≠ B := blk_ne h.xb h.rd (by decide)
theorem RdJ.XA {p : Nat} {c : Ch} {w : World} (h : RdJ w0 w1 A B X X0 b pre post p c xs w) : X ≠ A := by obtain ⟨t, ht⟩ := h.ch; exact blk_ne h.xb ht (by decide)
theorem RdJ.AB {p : Nat} {c : Ch} {w : World} (h : RdJ w0 w1 A B X X0 b pre post p c xs w) : A ≠ B := by obtain ⟨t, ht⟩ := h.ch; exact blk_ne ht h.rd (by decide)
theorem RdJ.grown {p q : Nat} {c : Ch} {w w' : World} (h : RdJ w0 w1 A B X X0 b pre post p c xs w) (hg : w.grownBy w' (some B)) (hr : Rd w' B b (q : Int) 0) (hq : q ≤ b.size) : RdJ w0 w1 A B X X0 b pre post q c xs w' := by
  obtain ⟨t, ht⟩ := h.ch
  exact ⟨hr, hq, ⟨t, (hg.block _ (lt_of_block ht) (by simpa using h.AB)).trans ht⟩, (hg.block _ (lt_of_block h.xb) (by simpa using h.XB)).trans h.xb, h.bo.grown (blk_ne h.bo h.rd (by decide)) hg,
    h.bel.trans ⟨hg.os, hg.tape, hg.output, hg.size, fun k hk => hg.block _ (Nat.lt_of_lt_of_le hk h.bel.size) (by simp; have := h.hB; omega)⟩, h.hA, h.hB, h.hX, h.hX1, Nat.le_trans h.size hg.size, fun g h1 h2 h3 => (hg.block _ (Nat.lt_of_lt_of_le h1 h.size) (by simpa using h3)).trans (h.kp g h1 h2 h3)⟩
theorem RdJ.below {p : Nat} {c : Ch} {w w' : World} (h : RdJ w0 w1 A B X X0 b pre post p c xs w) (hb : Below w.heap.size w w') : RdJ w0 w1 A B X X0 b pre post p c xs w' := h.grown (grown_below hb _) (rd_below h.rd hb) h.hp
theorem RdJ.set {p : Nat} {c : Ch} {w : World} (h : RdJ w0 w1 A B X X0 b pre post p c xs w) (k : Nat) (u : Value) : RdJ w0 w1 A B X X0 b pre post p c (xs.set k u) (w.setCell ⟨X, k, none⟩ u) := by
  obtain ⟨t, ht⟩ := h.ch
  refine ⟨(Below.heap_setCell _ _ _ _ (fun e => h.XB e.symm)).trans h.rd, h.hp, ⟨t, (Below.heap_setCell _ _ _ _ (fun e => h.XA e.symm)).trans ht⟩, by rw [cells_set h.xb, List.setIfInBounds_toArray], h.bo.set (blk_ne h.bo h.xb (by decide)) _, h.bel.setCell h.hX _, h.hA, h.hB, h.hX, h.hX1, by have := h.size; simpa using this, fun g h1 h2 h3 => (Below.heap_setCell _ _ _ _ (fun e => by have := h.hX1; simp only at e; omega)).trans (h.kp g h1 h2 h3)⟩
theorem RdJ.cell {p : Nat} {c : Ch} {w : World} (h : RdJ w0 w1 A B X X0 b pre post p c xs w) {k : Nat} {u : Value} (hk : xs[k]? = some u) : w.cell? ⟨X, k, none⟩ = some u := by
  have := h.xb; simp [World.cell?, this, hk]
theorem RdJ.z {p : Nat} {c : Ch} {w : World} (h : RdJ w0 w1 A B X X0 b pre post p c xs w) (k : Nat) : w.frozen? ⟨X, k, none⟩ = false := by
  have := h.xb; simp [World.frozen?, this]
theorem RdJ.cellT {p : Nat} {c : Ch} {w : World} (h : RdJ w0 w1 A B X X0 b pre post p c xs w) : (∃ t, w.cell? ⟨A, pre.length + 9, none⟩ = some t) ∧ w.frozen? ⟨A, pre.length + 9, none⟩ = false := by
  obtain ⟨t, ht⟩ := h.ch
  refine ⟨⟨t, ?_⟩, by simp [World.frozen?, ht]⟩
  simp only [World.cell?, ht]
  simp [chC]
theorem RdJ.fin {p : Nat} {c : Ch} {w : World} {ts : List ByteArray} (h : RdJ w0 w1 A B X X0 b pre post p c (strs ts) w) (hts : ts.length ≤ 8) : RdI w0 w1 A B b pre post (p, { c with tx := ts }) (w.setCell ⟨A, pre.length + 9, none⟩ (.slice (some ⟨X, 0, none⟩) ts.length ts.length)) := by
  obtain ⟨t, ht⟩ := h.ch
  have hl : (strs ts).length = ts.length := by simp [strs]
  refine ⟨(Below.heap_setCell _ _ _ _ (fun e => h.AB e.symm)).trans h.rd, h.hp, ⟨.slice (some ⟨X, 0, none⟩) ts.length ts.length, ?_, ?_⟩, h.bel.setCell h.hA _, h.hA, h.hB, by have := h.size; simpa using this, fun g h1 h2 h3 => (Below.heap_setCell _ _ _ _ h2).trans (h.kp g h1 h2 h3)⟩
  · rw [cells_set ht, mid_set _ _ _ _ (by simp [chC])]; rfl
  · refine ⟨by simp [strs], .inr ⟨X, ts.length, (strs ts).toArray, rfl, h.hX, (Below.heap_setCell _ _ _ _ h.XA).trans h.xb, Nat.le_refl _, by unfold maxLen; omega, by simp [strs], by rw [Nat.mul_one]; show (strs ts).take ts.length = strs ts; rw [← hl, List.take_length]⟩⟩
theorem Try.infoS : (Try.prog.info? 9).map (fun i => (i.zero, i.size, i.bytes)) = some (some (.string ByteArray.empty), 1, 16) := by kernel_rfl
theorem made_strs (n : Nat) : madeCells #[Value.string ByteArray.empty] n = (strs [] ++ List.replicate n (Value.string ByteArray.empty)).toArray := by
  apply Array.ext'
  apply List.ext_getElem
  · rw [Array.length_toList, size_madeCells]; simp [strs]
  · intro i h1 h2
    simp [madeCells, Nat.mod_one, strs]
theorem rTs_go {b : ByteArray} {n q : Nat} {S : ByteArray} {q' : Nat} (h : Rc.rT b 0 32 q = some (S, q')) : Rc.rTs b (n + 1) q = (Rc.rTs b n q').map fun y => (S :: y.1, y.2) := by rw [Rc.rTs, h]; rfl
theorem rTs_no {b : ByteArray} {n q : Nat} (h : Rc.rT b 0 32 q = none) : Rc.rTs b (n + 1) q = none := by rw [Rc.rTs, h]; rfl
theorem strs_set (done : List ByteArray) (m : Nat) (S : ByteArray) : (strs done ++ List.replicate (m + 1) (Value.string ByteArray.empty)).set done.length (.string S) = strs (done ++ [S]) ++ List.replicate m (Value.string ByteArray.empty) := by
  rw [List.set_append, if_neg (by simp [strs])]
  simp [strs, List.replicate_succ]
set_option maxHeartbeats 1000000 in
theorem rtexts_any {p : Nat} {c : Ch} {w : World} (h : RdI w0 w1 A B b pre post (p, c) w) (hb : b.size ≤ 140737488351232) :
    Calls Try.prog 82 #[rvB B, .pointer (some ⟨A, pre.length + 9, none⟩)] w (Vis (RdI w0 w1 A B b pre post) (RdQ w0) (stR b .T (p, c))) := by
  have h1 := h.below (below_alloc w (.cells #[.pointer (some ⟨B, 0, none⟩)] 68))
  have hX1 : Bo (w.alloc (.cells #[.pointer (some ⟨B, 0, none⟩)] 68)) w.heap.size B := heap_alloc_new w _
  obtain ⟨nA, nB⟩ := h1.box hX1
  have HN := hide (rnumber_any h1.rd h.hp hb 1 8 (by decide))
  have HH := hide h1
  have HX := hide hX1
  have hszs := h.size
  unfold rvB at *
  cases hr : Rc.rN b 1 8 p with
  | none =>
    have HS : Hid (stR b .T (p, c) = none) := hide (by simp [stR, Rc.rF, hr])
    rw [hr] at HN
    clear h h1 hr hX1
    go_enter Try.func82, Try.ntmps82
    go_wp2_with fail
    refine HN.out.mono ?_
    rintro e w2 ⟨he, hg⟩
    have HQ := hide (HH.out.giveG hg)
    unfold Gives at he
    subst he
    clear HN HH hg HX
    go_wp2
    exact ⟨rfl, Vis.none HS.out rfl HQ.out⟩
  | some y =>
    obtain ⟨N, q⟩ := y
    obtain ⟨hq, hN1, hN8, -⟩ := Rc.rN_form h.hp hr
    have HST : Hid (stR b .T (p, c) = (Rc.rTs b N q).map fun y => (y.2, { c with tx := y.1 })) := hide (by simp only [stR, Rc.rF, hr, Option.bind_some]; cases Rc.rTs b N q <;> rfl)
    rw [hr] at HN
    clear h h1 hr hX1
    go_enter Try.func82, Try.ntmps82
    go_wp2_with fail
    refine HN.out.mono ?_
    rintro e w2 ⟨⟨rfl, hr2⟩, hg⟩
    have h2 := HH.out.grown hg hr2 hq
    have hbo2 := HX.out.grown nB hg
    have cX := hbo2.c
    have HJ : Hid (RdJ w0 w1 A B w2.heap.size w.heap.size b pre post q c (strs [] ++ List.replicate N (Value.string ByteArray.empty)) (w2.alloc (.cells (madeCells #[.string ByteArray.empty] N) 9))) := hide (by
      have h3 := h2.below (below_alloc w2 (.cells (madeCells #[.string ByteArray.empty] N) 9))
      obtain ⟨t, ht, _⟩ := h3.ch
      exact ⟨h3.rd, h3.hp, ⟨t, ht⟩, by rw [heap_alloc_new, made_strs], (Below.heap_alloc _ _ _ (lt_of_block hbo2)).trans hbo2, h3.bel, h3.hA, h3.hB, h2.bel.size, h2.size, h3.size, h3.kp⟩)
    have hmk := run_make_row' (P := Try.prog) 27 9 (.string ByteArray.empty) 16 Try.underlying27 Try.infoS rfl .i64 .i64 N (by omega) (by omega) w2
    clear HN HH hg hr2 HX h2 hbo2
    go_wp2_with fail
    have hw12 := HJ.out.size
    generalize hXX : w2.heap.size = X at *
    generalize w2.alloc (.cells (madeCells #[.string ByteArray.empty] N) 9) = w3 at *
    go_loopw [11] (fun s wr => ∃ (k : Nat) (q' : Nat) (done : List ByteArray), k ≤ N ∧ s = .int .i64 (k : Int) ∧ done.length = k ∧ Hid (Rc.rTs b N q = (Rc.rTs b (N - k) q').map fun y => (done ++ y.1, y.2)) ∧ Hid (RdJ w0 w1 A B X w.heap.size b pre post q' c (strs done ++ List.replicate (N - k) (Value.string ByteArray.empty)) wr)) (fun s _ => N - (intOf s).toNat)
    case atStart => exact ⟨0, q, [], Nat.zero_le _, rfl, rfl, hide (by cases Rc.rTs b (N - 0) q <;> rfl), HJ⟩
    case round =>
      obtain ⟨k, q', done, hk, rfl, hdl, HR, HK⟩ := hrel
      by_cases hkl : k < N
      · have hki : (k : Int) < (N : Int) := by omega
        have cXr := HK.out.bo.c
        obtain ⟨m, hm⟩ : ∃ m, N - k = m + 1 := ⟨N - k - 1, by omega⟩
        rw [hm] at HR HK
        have hck : (strs done ++ List.replicate (m + 1) (Value.string ByteArray.empty))[k]? = some (.string ByteArray.empty) := by
          rw [List.getElem?_append_right (by simp [strs]; omega)]; simp [strs, hdl]
        have HT := hide (fun (W : World) (hW : Below wr.heap.size wr W) => rtext_at (a := ⟨X, k, none⟩) (HK.out.below hW).rd HK.out.hp hb 0 32 (by decide) HK.out.XB ((HK.out.below hW).cell hck) ((HK.out.below hW).z k))
        clear hck
        have hd1 : Below wr.heap.size wr wr.drew := (Below.refl _ _).drew
        unfold rvB at HT
        go_wp2_with fail
        refine wp_region_held_drew (S := fun w' => w'.cell? ⟨w.heap.size, 0, none⟩ = some (.pointer (some ⟨B, 0, none⟩))) (by kernel_rfl) cXr (fun hHeld => ?_)
        refine wpAnyH_take (i := 0) (v := .agg #[.pointer (some ⟨B, 0, none⟩)]) rfl (by kernel_rfl) (by kernel_rfl) (by kernel_rfl) (fun _ _ _ h => h) (Or.inl ⟨by rfl, fun w1 hSw => by have hS1 := hSw; clear hHeld; go_simp⟩) hHeld ?_
        simp only [Act.put, List.setIfInBounds_toArray]
        refine wpAnyH_take (i := 1) (v := .slice (some ⟨X, 0, none⟩) N N) rfl (by kernel_rfl) (by kernel_rfl) (by kernel_rfl) (fun _ _ _ h => h) (Or.inl ⟨by rfl, fun w1 hSw => by have hS1 := hSw; clear hHeld; go_simp⟩) hHeld ?_
        simp only [Act.put]
        refine wpAnyH_take (i := 2) (v := .int .i64 (k : Int)) rfl (by kernel_rfl) (by kernel_rfl) (by kernel_rfl) (fun _ _ _ h => h) (Or.inl ⟨by rfl, fun w1 hSw => by have hS1 := hSw; clear hHeld; go_simp⟩) hHeld ?_
        simp only [Act.put]
        refine wpAnyH_take (i := 3) (v := .pointer (some ⟨X, k, none⟩)) rfl (by kernel_rfl) (by kernel_rfl) (by kernel_rfl) (fun _ _ _ h => h) (Or.inl ⟨by rfl, fun w1 hSw => by have hS1 := hSw; clear hHeld; go_simp⟩) hHeld ?_
        simp only [Act.put]
        refine wpAnyH_ready (rs := [4]) (by kernel_rfl) (by simp) ?_
        refine AllReadyH.cons rfl (fun KK hK => ?_) AllReadyH.nil
        go_simp
        refine (HT.out _ hd1).mono ?_
        intro e w4 hTP
        unfold TPost at hTP
        cases hrt : Rc.rT b 0 32 q' with
        | none =>
          rw [hrt] at hTP
          obtain ⟨he, W, S, hg, hb2⟩ := hTP
          have HQ : Hid (RdQ w0 w4) := hide (by
            have hJ := HK.out.below hd1
            have : Below w0.heap.size w0 W := hJ.bel.trans ⟨hg.os, hg.tape, hg.output, hg.size, fun k hk => hg.block _ (Nat.lt_of_lt_of_le hk hJ.bel.size) (by simp; have := hJ.hB; omega)⟩
            exact (this.setCell hJ.hX _).trans (hb2.mono this.size))
          have HS : Hid (stR b .T (p, c) = none) := hide (by rw [HST.out, HR.out, rTs_no hrt]; rfl)
          unfold Gives at he
          subst he
          exact ⟨rfl, Vis.none HS.out rfl HQ.out⟩
        | some y =>
          obtain ⟨S, q2⟩ := y
          rw [hrt] at hTP
          obtain ⟨rfl, W, hg, hR2, hb2⟩ := hTP
          have hJ2 := ((HK.out.below hd1).grown hg hR2 (Rc.rT_form HK.out.hp hrt).1).set k (.string S)
          rw [show (strs done ++ List.replicate (m + 1) (Value.string ByteArray.empty)).set k (.string S) = strs (done ++ [S]) ++ List.replicate m (Value.string ByteArray.empty) by rw [← hdl]; exact strs_set done m S] at hJ2
          have HJ3 := hide (hJ2.below (by rw [show (W.setCell ⟨X, k, none⟩ (.string S)).heap.size = W.heap.size by simp]; exact hb2))
          have HR2 : Hid (Rc.rTs b N q = (Rc.rTs b m q2).map fun y => (done ++ [S] ++ y.1, y.2)) := hide (by rw [HR.out, rTs_go hrt]; cases Rc.rTs b m q2 <;> simp)
          refine hK.out _ _ HJ3.out.bo.c (fun hHeld => ?_)
          refine wpAnyH_done (by kernel_rfl) ?_ _
          clear HT HR HK hg hR2 hb2 hJ2 hrt cXr hd1
          go_wp2
          go_roundw
          case rel => exact ⟨k + 1, q2, done ++ [S], by omega, by go_num, by simp [hdl], by rw [show N - (k + 1) = m by omega]; exact HR2, by rw [show N - (k + 1) = m by omega]; exact HJ3⟩
          case measure => simp [intOf]; omega
      · obtain rfl : k = N := by omega
        have hki : ¬ (k : Int) < (k : Int) := by omega
        rw [Nat.sub_self] at HR HK
        have HS : Hid (stR b .T (p, c) = some (q', { c with tx := done })) := hide (by rw [HST.out, HR.out]; simp [Rc.rTs])
        have hJ := HK.out
        rw [List.replicate_zero, List.append_nil] at hJ
        have HF := hide (hJ.fin (ts := done) (by omega))
        rw [hdl] at HF
        obtain ⟨cA, zA⟩ := hJ.cellT
        obtain ⟨t, cA⟩ := cA
        clear HK hJ HR HST
        go_wp2
        go_end0
        exact Vis.some HS.out HF.out

end Go.Proofs.Ytjabnddjahhgoaa
