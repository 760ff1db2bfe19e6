import Derived.Test.YtlgcimfbhjidgaaMgAO
import Derived.Deep.OwnRows

section
namespace Go.Proofs.Ytlgcimfbhjidgaa
open Go.RowKit
open Rc (L V Ch)
variable {w0 w1 : World} {A B : Nat} {b : ByteArray} {pre post : List Value}

/-- the reader's state while texts are read into block X -/
structure RdJ (w0 w1 : World) (A B X X0 : Nat) (b : ByteArray) (pre post : List Value) (p : Nat) (c : Ch) (xs : List Value) (w : World) : Prop where
  rd : Rd w B b (p : Int) 0
  hp : p ≤ b.size
  ch : ∃ t, w.heap[A]? = some (.cells (pre ++ (chC c t).toList ++ post).toArray 32 (0, 0))
  xb : w.heap[X]? = some (.cells xs.toArray 9 (0, 0))
  bo : Bo w X0 B
  bel : Below w0.heap.size w0 w
  hA : w0.heap.size ≤ A
  hB : w0.heap.size ≤ B
  hX : w0.heap.size ≤ X
  hX1 : w1.heap.size ≤ X
  size : w1.heap.size ≤ w.heap.size
  kp : ∀ g, g < w1.heap.size → g ≠ A → g ≠ B → w.heap[g]? = w1.heap[g]?
theorem blk_ne {w : World} {X Y : Nat} {cs cs' : Array Value} {t t' : TypeId} (h : w.heap[X]? = some (.cells cs t (0, 0))) (h' : w.heap[Y]? = some (.cells cs' t' (0, 0))) (ht : t ≠ t') : X ≠ Y := by
  rintro rfl
  rw [h] at h'
  simp only [Option.some.injEq, Obj.cells.injEq] at h'
  exact ht h'.2.1
variable {X X0 : Nat} {xs : List Value}
theorem RdJ.XB {p : Nat} {c : Ch} {w : World} (h : RdJ w0 w1 A B X X0 b pre post p c xs w) : X ≠ B := blk_ne h.xb h.rd (by decide)
theorem RdJ.XA {p : Nat} {c : Ch} {w : World} (h : RdJ w0 w1 A B X X0 b pre post p c xs w) : X ≠ A := by obtain ⟨t, ht⟩ := h.ch; exact blk_ne h.xb ht (by decide)
theorem RdJ.AB {p : Nat} {c : Ch} {w : World} (h : RdJ w0 w1 A B X X0 b pre post p c xs w) : A ≠ B := by obtain ⟨t, ht⟩ := h.ch; exact blk_ne ht h.rd (by decide)
theorem RdJ.grown {p q : Nat} {c : Ch} {w w' : World} (h : RdJ w0 w1 A B X X0 b pre post p c xs w) (hg : w.grownBy w' (some B)) (hr : Rd w' B b (q : Int) 0) (hq : q ≤ b.size) : RdJ w0 w1 A B X X0 b pre post q c xs w' := by
  obtain ⟨t, ht⟩ := h.ch
  exact ⟨hr, hq, ⟨t, (hg.block _ (lt_of_block ht) (by simpa using h.AB)).trans ht⟩, (hg.block _ (lt_of_block h.xb) (by simpa using h.XB)).trans h.xb, h.bo.grown (blk_ne h.bo h.rd (by decide)) hg,
    h.bel.trans ⟨hg.os, hg.tape, hg.output, hg.size, fun k hk => hg.block _ (Nat.lt_of_lt_of_le hk h.bel.size) (by simp; have := h.hB; omega)⟩, h.hA, h.hB, h.hX, h.hX1, Nat.le_trans h.size hg.size, fun g h1 h2 h3 => (hg.block _ (Nat.lt_of_lt_of_le h1 h.size) (by simpa using h3)).trans (h.kp g h1 h2 h3)⟩
theorem RdJ.below {p : Nat} {c : Ch} {w w' : World} (h : RdJ w0 w1 A B X X0 b pre post p c xs w) (hb : Below w.heap.size w w') : RdJ w0 w1 A B X X0 b pre post p c xs w' := h.grown (grown_below hb _) (rd_below h.rd hb) h.hp
theorem RdJ.set {p : Nat} {c : Ch} {w : World} (h : RdJ w0 w1 A B X X0 b pre post p c xs w) (k : Nat) (u : Value) : RdJ w0 w1 A B X X0 b pre post p c (xs.set k u) (w.setCell ⟨X, k, none⟩ u) := by
  obtain ⟨t, ht⟩ := h.ch
  refine ⟨(Below.heap_setCell _ _ _ _ (fun e => h.XB e.symm)).trans h.rd, h.hp, ⟨t, (Below.heap_setCell _ _ _ _ (fun e => h.XA e.symm)).trans ht⟩, by rw [cells_set h.xb, List.setIfInBounds_toArray], h.bo.set (blk_ne h.bo h.xb (by decide)) _, h.bel.setCell h.hX _, h.hA, h.hB, h.hX, h.hX1, by have := h.size; simpa using this, fun g h1 h2 h3 => (Below.heap_setCell _ _ _ _ (fun e => by have := h.hX1; simp only at e; omega)).trans (h.kp g h1 h2 h3)⟩
theorem RdJ.cell {p : Nat} {c : Ch} {w : World} (h : RdJ w0 w1 A B X X0 b pre post p c xs w) {k : Nat} {u : Value} (hk : xs[k]? = some u) : w.cell? ⟨X, k, none⟩ = some u := by
  have := h.xb; simp [World.cell?, this, hk]
theorem RdJ.z {p : Nat} {c : Ch} {w : World} (h : RdJ w0 w1 A B X X0 b pre post p c xs w) (k : Nat) : w.frozen? ⟨X, k, none⟩ = false := by
  have := h.xb; simp [World.frozen?, this]
theorem RdJ.cellT {p : Nat} {c : Ch} {w : World} (h : RdJ w0 w1 A B X X0 b pre post p c xs w) : (∃ t, w.cell? ⟨A, pre.length + 9, none⟩ = some t) ∧ w.frozen? ⟨A, pre.length + 9, none⟩ = false := by
  obtain ⟨t, ht⟩ := h.ch
  refine ⟨⟨t, ?_⟩, by simp [World.frozen?, ht]⟩
  simp only [World.cell?, ht]
  simp [chC]
theorem RdJ.fin {p : Nat} {c : Ch} {w : World} {ts : List ByteArray} (h : RdJ w0 w1 A B X X0 b pre post p c (strs ts) w) (hts : ts.length ≤ 8) : RdI w0 w1 A B b pre post (p, { c with tx := ts }) (w.setCell ⟨A, pre.length + 9, none⟩ (.slice (some ⟨X, 0, none⟩) ts.length ts.length)) := by
  obtain ⟨t, ht⟩ := h.ch
  have hl : (strs ts).length = ts.length := by simp [strs]
  refine ⟨(Below.heap_setCell _ _ _ _ (fun e => h.AB e.symm)).trans h.rd, h.hp, ⟨.slice (some ⟨X, 0, none⟩) ts.length ts.length, ?_, ?_⟩, h.bel.setCell h.hA _, h.hA, h.hB, by have := h.size; simpa using this, fun g h1 h2 h3 => (Below.heap_setCell _ _ _ _ h2).trans (h.kp g h1 h2 h3)⟩
  · rw [cells_set ht, mid_set _ _ _ _ (by simp [chC])]; rfl
  · refine ⟨by simp [strs], .inr ⟨X, ts.length, (strs ts).toArray, rfl, h.hX, (Below.heap_setCell _ _ _ _ h.XA).trans h.xb, Nat.le_refl _, by unfold maxLen; omega, by simp [strs], by rw [Nat.mul_one]; show (strs ts).take ts.length = strs ts; rw [← hl, List.take_length]⟩⟩
theorem Try.infoS : (Try.prog.info? 9).map (fun i => (i.zero, i.size, i.bytes)) = some (some (.string ByteArray.empty), 1, 16) := by kernel_rfl
theorem made_strs (n : Nat) : madeCells #[Value.string ByteArray.empty] n = (strs [] ++ List.replicate n (Value.string ByteArray.empty)).toArray := by
  apply Array.ext'
  apply List.ext_getElem
  · rw [Array.length_toList, size_madeCells]; simp [strs]
  · intro i h1 h2
    simp [madeCells, Nat.mod_one, strs]
theorem rTs_go {b : ByteArray} {n q : Nat} {S : ByteArray} {q' : Nat} (h : Rc.rT b 0 32 q = some (S, q')) : Rc.rTs b (n + 1) q = (Rc.rTs b n q').map fun y => (S :: y.1, y.2) := by rw [Rc.rTs, h]; rfl
theorem rTs_no {b : ByteArray} {n q : Nat} (h : Rc.rT b 0 32 q = none) : Rc.rTs b (n + 1) q = none := by rw [Rc.rTs, h]; rfl
theorem strs_set (done : List ByteArray) (m : Nat) (S : ByteArray) : (strs done ++ List.replicate (m + 1) (Value.string ByteArray.empty)).set done.length (.string S) = strs (done ++ [S]) ++ List.replicate m (Value.string ByteArray.empty) := by
  rw [List.set_append, if_neg (by simp [strs])]
  simp [strs, List.replicate_succ]
set_option maxHeartbeats 1000000 in
theorem rtexts_any {p : Nat} {c : Ch} {w : World} (h : RdI w0 w1 A B b pre post (p, c) w) (hb : b.size ≤ 140737488351232) :
    Calls Try.prog 67 #[rvB B, .pointer (some ⟨A, pre.length + 9, none⟩)] w (Vis (RdI w0 w1 A B b pre post) (RdQ w0) (stR b .T (p, c))) := by
  have h1 := h.below (below_alloc w (.cells #[.pointer (some ⟨B, 0, none⟩)] 48))
  have hX1 : Bo (w.alloc (.cells #[.pointer (some ⟨B, 0, none⟩)] 48)) w.heap.size B := heap_alloc_new w _
  obtain ⟨nA, nB⟩ := h1.box hX1
  have HN := hide (rnumber_any h1.rd h.hp hb 1 8 (by decide))
  have HH := hide h1
  have HX := hide hX1
  have hszs := h.size
  unfold rvB at *
  cases hr : Rc.rN b 1 8 p with
  | none =>
    have HS : Hid (stR b .T (p, c) = none) := hide (by simp [stR, Rc.rF, hr])
    rw [hr] at HN
    clear h h1 hr hX1
    go_enter Try.func67, Try.ntmps67
    go_wp2_with fail
    refine HN.out.mono ?_
    rintro e w2 ⟨he, hg⟩
    have HQ := hide (HH.out.giveG hg)
    unfold Gives at he
    subst he
    clear HN HH hg HX
    go_wp2
    exact ⟨rfl, Vis.none HS.out rfl HQ.out⟩
  | some y =>
    obtain ⟨N, q⟩ := y
    obtain ⟨hq, hN1, hN8, -⟩ := Rc.rN_form h.hp hr
    have HST : Hid (stR b .T (p, c) = (Rc.rTs b N q).map fun y => (y.2, { c with tx := y.1 })) := hide (by simp only [stR, Rc.rF, hr, Option.bind_some]; cases Rc.rTs b N q <;> rfl)
    rw [hr] at HN
    clear h h1 hr hX1
    go_enter Try.func67, Try.ntmps67
    go_wp2_with fail
    refine HN.out.mono ?_
    rintro e w2 ⟨⟨rfl, hr2⟩, hg⟩
    have h2 := HH.out.grown hg hr2 hq
    have hbo2 := HX.out.grown nB hg
    have cX := hbo2.c
    have HJ : Hid (RdJ w0 w1 A B w2.heap.size w.heap.size b pre post q c (strs [] ++ List.replicate N (Value.string ByteArray.empty)) (w2.alloc (.cells (madeCells #[.string ByteArray.empty] N) 9))) := hide (by
      have h3 := h2.below (below_alloc w2 (.cells (madeCells #[.string ByteArray.empty] N) 9))
      obtain ⟨t, ht, _⟩ := h3.ch
      exact ⟨h3.rd, h3.hp, ⟨t, ht⟩, by rw [heap_alloc_new, made_strs], (Below.heap_alloc _ _ _ (lt_of_block hbo2)).trans hbo2, h3.bel, h3.hA, h3.hB, h2.bel.size, h2.size, h3.size, h3.kp⟩)
    have hmk := run_make_row' (P := Try.prog) 30 9 (.string ByteArray.empty) 16 Try.underlying30 Try.infoS rfl .i64 .i64 N (by omega) (by omega) w2
    clear HN HH hg hr2 HX h2 hbo2
    go_wp2_with fail
    have hw12 := HJ.out.size
    generalize hXX : w2.heap.size = X at *
    generalize w2.alloc (.cells (madeCells #[.string ByteArray.empty] N) 9) = w3 at *
    go_loopw [11] (fun s wr => ∃ (k : Nat) (q' : Nat) (done : List ByteArray), k ≤ N ∧ s = .int .i64 (k : Int) ∧ done.length = k ∧ Hid (Rc.rTs b N q = (Rc.rTs b (N - k) q').map fun y => (done ++ y.1, y.2)) ∧ Hid (RdJ w0 w1 A B X w.heap.size b pre post q' c (strs done ++ List.replicate (N - k) (Value.string ByteArray.empty)) wr)) (fun s _ => N - (intOf s).toNat)
    case atStart => exact ⟨0, q, [], Nat.zero_le _, rfl, rfl, hide (by cases Rc.rTs b (N - 0) q <;> rfl), HJ⟩
    case round =>
      obtain ⟨k, q', done, hk, rfl, hdl, HR, HK⟩ := hrel
      by_cases hkl : k < N
      · have hki : (k : Int) < (N : Int) := by omega
        have cXr := HK.out.bo.c
        obtain ⟨m, hm⟩ : ∃ m, N - k = m + 1 := ⟨N - k - 1, by omega⟩
        rw [hm] at HR HK
        have hck : (strs done ++ List.replicate (m + 1) (Value.string ByteArray.empty))[k]? = some (.string ByteArray.empty) := by
          rw [List.getElem?_append_right (by simp [strs]; omega)]; simp [strs, hdl]
        have HT := hide (fun (W : World) (hW : Below wr.heap.size wr W) => rtext_at (a := ⟨X, k, none⟩) (HK.out.below hW).rd HK.out.hp hb 0 32 (by decide) HK.out.XB ((HK.out.below hW).cell hck) ((HK.out.below hW).z k))
        clear hck
        have hd1 : Below wr.heap.size wr wr.drew := (Below.refl _ _).drew
        unfold rvB at HT
        go_wp2_with fail
        refine wp_region_held_drew (S := fun w' => w'.cell? ⟨w.heap.size, 0, none⟩ = some (.pointer (some ⟨B, 0, none⟩))) (by kernel_rfl) cXr (fun hHeld => ?_)
        refine wpAnyH_take (i := 0) (v := .agg #[.pointer (some ⟨B, 0, none⟩)]) rfl (by kernel_rfl) (by kernel_rfl) (by kernel_rfl) (fun _ _ _ h => h) (Or.inl ⟨by rfl, fun w1 hSw => by have hS1 := hSw; clear hHeld; go_simp⟩) hHeld ?_
        simp only [Act.put, List.setIfInBounds_toArray]
        refine wpAnyH_take (i := 1) (v := .slice (some ⟨X, 0, none⟩) N N) rfl (by kernel_rfl) (by kernel_rfl) (by kernel_rfl) (fun _ _ _ h => h) (Or.inl ⟨by rfl, fun w1 hSw => by have hS1 := hSw; clear hHeld; go_simp⟩) hHeld ?_
        simp only [Act.put]
        refine wpAnyH_take (i := 2) (v := .int .i64 (k : Int)) rfl (by kernel_rfl) (by kernel_rfl) (by kernel_rfl) (fun _ _ _ h => h) (Or.inl ⟨by rfl, fun w1 hSw => by have hS1 := hSw; clear hHeld; go_simp⟩) hHeld ?_
        simp only [Act.put]
        refine wpAnyH_take (i := 3) (v := .pointer (some ⟨X, k, none⟩)) rfl (by kernel_rfl) (by kernel_rfl) (by kernel_rfl) (fun _ _ _ h => h) (Or.inl ⟨by rfl, fun w1 hSw => by have hS1 := hSw; clear hHeld; go_simp⟩) hHeld ?_
        simp only [Act.put]
        refine wpAnyH_ready (rs := [4]) (by kernel_rfl) (by simp) ?_
        refine AllReadyH.cons rfl (fun KK hK => ?_) AllReadyH.nil
        go_simp
        refine (HT.out _ hd1).mono ?_
        intro e w4 hTP
        unfold TPost at hTP
        cases hrt : Rc.rT b 0 32 q' with
        | none =>
          rw [hrt] at hTP
          obtain ⟨he, W, S, hg, hb2⟩ := hTP
          have HQ : Hid (RdQ w0 w4) := hide (by
            have hJ := HK.out.below hd1
            have : Below w0.heap.size w0 W := hJ.bel.trans ⟨hg.os, hg.tape, hg.output, hg.size, fun k hk => hg.block _ (Nat.lt_of_lt_of_le hk hJ.bel.size) (by simp; have := hJ.hB; omega)⟩
            exact (this.setCell hJ.hX _).trans (hb2.mono this.size))
          have HS : Hid (stR b .T (p, c) = none) := hide (by rw [HST.out, HR.out, rTs_no hrt]; rfl)
          unfold Gives at he
          subst he
          exact ⟨rfl, Vis.none HS.out rfl HQ.out⟩
        | some y =>
          obtain ⟨S, q2⟩ := y
          rw [hrt] at hTP
          obtain ⟨rfl, W, hg, hR2, hb2⟩ := hTP
          have hJ2 := ((HK.out.below hd1).grown hg hR2 (Rc.rT_form HK.out.hp hrt).1).set k (.string S)
          rw [show (strs done ++ List.replicate (m + 1) (Value.string ByteArray.empty)).set k (.string S) = strs (done ++ [S]) ++ List.replicate m (Value.string ByteArray.empty) by rw [← hdl]; exact strs_set done m S] at hJ2
          have HJ3 := hide (hJ2.below (by rw [show (W.setCell ⟨X, k, none⟩ (.string S)).heap.size = W.heap.size by simp]; exact hb2))
          have HR2 : Hid (Rc.rTs b N q = (Rc.rTs b m q2).map fun y => (done ++ [S] ++ y.1, y.2)) := hide (by rw [HR.out, rTs_go hrt]; cases Rc.rTs b m q2 <;> simp)
          refine hK.out _ _ HJ3.out.bo.c (fun hHeld => ?_)
          refine wpAnyH_done (by kernel_rfl) ?_ _
          clear HT HR HK hg hR2 hb2 hJ2 hrt cXr hd1
          go_wp2
          go_roundw
          case rel => exact ⟨k + 1, q2, done ++ [S], by omega, by go_num, by simp [hdl], by rw [show N - (k + 1) = m by omega]; exact HR2, by rw [show N - (k + 1) = m by omega]; exact HJ3⟩
          case measure => simp [intOf]; omega
      · obtain rfl : k = N := by omega
        have hki : ¬ (k : Int) < (k : Int) := by omega
        rw [Nat.sub_self] at HR HK
        have HS : Hid (stR b .T (p, c) = some (q', { c with tx := done })) := hide (by rw [HST.out, HR.out]; simp [Rc.rTs])
        have hJ := HK.out
        rw [List.replicate_zero, List.append_nil] at hJ
        have HF := hide (hJ.fin (ts := done) (by omega))
        rw [hdl] at HF
        obtain ⟨cA, zA⟩ := hJ.cellT
        obtain ⟨t, cA⟩ := cA
        clear HK hJ HR HST
        go_wp2
        go_end0
        exact Vis.some HS.out HF.out

end Go.Proofs.Ytlgcimfbhjidgaa
end

section
namespace Go.Proofs.Ytlgcimfbhjidgaa
open Go.RowKit
open Rc (L V Ch)
variable {w0 w1 : World} {A B : Nat} {b : ByteArray} {pre post : List Value}

def kR : L → FuncId
  | .P => 66 | .T => 67 | .R => 65 | _ => 68
theorem vis_and {α : Type} {Inv : α → World → Prop} {Q : World → Prop} {P : α → Prop} {x : Option α} {e : Ending} {w : World} (h : Vis Inv Q x e w) (hx : ∀ s, x = some s → P s) : Vis (fun s w => Inv s w ∧ P s) Q x e w := by
  cases x with
  | none => exact h
  | some s => exact ⟨h.1, h.2, hx s rfl⟩
theorem stR_k {l : L} {s s' : Nat × Ch} (h : stR b l s = some s') : s'.2.k = s.2.k := by
  unfold stR at h
  rw [Option.map_eq_some_iff] at h
  obtain ⟨x, _, rfl⟩ := h
  exact Rc.k_set _ _ _
theorem readerV (hb : b.size ≤ 140737488351232) (k : Int) : Visitor A pre.length k 48 (rvB B) (rvB B) kR (fun s w => RdI w0 w1 A B b pre post s w ∧ s.2.k = k) (RdQ w0) (stR b) (fun _ _ => True) where
  kind := fun s w h => by
    obtain ⟨u, hu, t, ht⟩ := h.1.cell 0 (by decide)
    simp [chC] at ht
    rw [Nat.add_zero] at hu
    rw [hu, ← ht, h.2]
  drew := fun s w h => ⟨h.1.drew, h.2⟩
  ahead := fun l w => by cases l <;> kernel_rfl
  meth := fun l w => by cases l <;> kernel_rfl
  run := fun l args w => by cases l <;> rfl
  call := fun l s w _ h => by
    obtain ⟨p, c⟩ := s
    have hk : ∀ s', stR b l (p, c) = some s' → s'.2.k = k := fun s' hs => (stR_k hs).trans h.2
    cases l
    case P => exact (rtextL_any h.1 hb).mono fun _ _ h' => vis_and h' hk
    case T => exact (rtexts_any h.1 hb).mono fun _ _ h' => vis_and h' hk
    case R => exact (rresult_any h.1 hb).mono fun _ _ h' => vis_and h' hk
    all_goals exact (rwhole_any h.1 hb rfl).mono fun _ _ h' => vis_and h' hk
theorem rvisit_any {p : Nat} {c : Ch} {w : World} (h : RdI w0 w1 A B b pre post (p, c) w) (hb : b.size ≤ 140737488351232) (hk : 1 ≤ c.k ∧ c.k ≤ 6) :
    Calls Try.prog 19 #[.pointer (some ⟨A, pre.length, none⟩), .iface 48 (rvB B)] w fun e w' =>
      match Rc.rFs b (Rc.letters c.k) p c with | some x => e = .returned (.tuple #[]) ∧ RdI w0 w1 A B b pre post (x.2, x.1) w' | none => Gives e 83 ∧ RdQ w0 w' := by
  refine (visit_gen (readerV (w0 := w0) (w1 := w1) (A := A) (B := B) (pre := pre) (post := post) hb c.k) (p, c) w ⟨h, rfl⟩ (okAll_true _ _ _) hk).mono ?_
  intro e w' hv
  rw [runL_R] at hv
  cases hr : Rc.rFs b (Rc.letters c.k) p c with
  | none => simp only [hr, Option.map_none] at hv; exact hv
  | some x => simp only [hr, Option.map_some] at hv; exact ⟨hv.1, hv.2.1⟩
/-- changes as cells -/
def flatV (vals : List (Ch × Value)) : List Value := vals.flatMap fun x => (chC x.1 x.2).toList
def zc : List Value := (chC (Rc.zC 0) (.slice none 0 0)).toList
def zs (m : Nat) : List Value := (List.replicate m zc).flatten
theorem flatV_len (vals : List (Ch × Value)) : (flatV vals).length = vals.length * 10 := by
  induction vals with
  | nil => rfl
  | cons x l ih =>
    have : flatV (x :: l) = (chC x.1 x.2).toList ++ flatV l := by simp [flatV]
    rw [this, List.length_append, ih, List.length_cons]; simp [chC]; omega
theorem flatV_snoc (vals : List (Ch × Value)) (x : Ch × Value) : flatV (vals ++ [x]) = flatV vals ++ (chC x.1 x.2).toList := by simp [flatV]
theorem zs_succ (m : Nat) : zs (m + 1) = zc ++ zs m := by simp [zs, List.replicate_succ]
structure RwI (w0 : World) (A B X0 : Nat) (b : ByteArray) (q : Nat) (vals : List (Ch × Value)) (m : Nat) (w : World) : Prop where
  rd : Rd w B b (q : Int) 0
  hp : q ≤ b.size
  ch : w.heap[A]? = some (.cells (flatV vals ++ zs m).toArray 32 (0, 0))
  own : ∀ x ∈ vals, w.ownsRow w0.heap.size 9 1 x.2 x.1.tx.length (strs x.1.tx)
  bo : Bo w X0 B
  bel : Below w0.heap.size w0 w
  hA : w0.heap.size ≤ A
  hB : w0.heap.size ≤ B
variable {X0 : Nat}
theorem RwI.AB {q m : Nat} {vals : List (Ch × Value)} {w : World} (h : RwI w0 A B X0 b q vals m w) : A ≠ B := blk_ne h.ch h.rd (by decide)
theorem RwI.grown {q q' m : Nat} {vals : List (Ch × Value)} {w w' : World} (h : RwI w0 A B X0 b q vals m w) (hg : w.grownBy w' (some B)) (hr : Rd w' B b (q' : Int) 0) (hq : q' ≤ b.size) : RwI w0 A B X0 b q' vals m w' :=
  ⟨hr, hq, (hg.block _ (lt_of_block h.ch) (by simpa using h.AB)).trans h.ch, fun x hx => own_stepS (h.own x hx) fun X hX => hg.block _ ((h.own x hx).lt X hX.symm).2 (fun e => own_typeS (h.own x hx) (show w.heap[B]? = some (.cells _ 66 (0, 0)) from h.rd) (by decide) (by rw [← e]; exact hX)),
    h.bo.grown (blk_ne h.bo h.rd (by decide)) hg, h.bel.trans ⟨hg.os, hg.tape, hg.output, hg.size, fun k hk => hg.block _ (Nat.lt_of_lt_of_le hk h.bel.size) (by simp; have := h.hB; omega)⟩, h.hA, h.hB⟩
theorem RwI.below {q m : Nat} {vals : List (Ch × Value)} {w w' : World} (h : RwI w0 A B X0 b q vals m w) (hb : Below w.heap.size w w') : RwI w0 A B X0 b q vals m w' := h.grown (grown_below hb _) (rd_below h.rd hb) h.hp
theorem RwI.giveG {q m : Nat} {vals : List (Ch × Value)} {w w' : World} (h : RwI w0 A B X0 b q vals m w) (hg : w.grownBy w' (some B)) : RdQ w0 w' :=
  h.bel.trans ⟨hg.os, hg.tape, hg.output, hg.size, fun k hk => hg.block _ (Nat.lt_of_lt_of_le hk h.bel.size) (by simp; have := h.hB; omega)⟩
theorem RwI.start {q m : Nat} {vals : List (Ch × Value)} {w : World} (h : RwI w0 A B X0 b q vals (m + 1) w) (K : Int) : RdI w0 (w.setCell ⟨A, (flatV vals).length, none⟩ (.int .i64 K)) A B b (flatV vals) (zs m) (q, Rc.zC K) (w.setCell ⟨A, (flatV vals).length, none⟩ (.int .i64 K)) := by
  refine ⟨(Below.heap_setCell _ _ _ _ (fun e => h.AB e.symm)).trans h.rd, h.hp, ⟨.slice none 0 0, ?_, World.ownsRow_nil _ _ _ _⟩, h.bel.setCell h.hA _, h.hA, h.hB, Nat.le_refl _, fun _ _ _ _ => rfl⟩
  have hc := h.ch
  rw [zs_succ, ← List.append_assoc] at hc
  rw [cells_set hc]
  have := mid_set (flatV vals) (zs m) zc 0 (by simp [zc, chC]) (.int .i64 K)
  rw [Nat.add_zero] at this
  rw [this]; rfl
theorem RwI.next {q q' m : Nat} {vals : List (Ch × Value)} {w w' : World} {K : Int} {c : Ch} (h : RwI w0 A B X0 b q vals (m + 1) w) (h' : RdI w0 (w.setCell ⟨A, (flatV vals).length, none⟩ (.int .i64 K)) A B b (flatV vals) (zs m) (q', c) w') : ∃ t, RwI w0 A B X0 b q' (vals ++ [(c, t)]) m w' := by
  obtain ⟨t, ht, ho⟩ := h'.ch
  have hs : (w.setCell ⟨A, (flatV vals).length, none⟩ (.int .i64 K)).heap.size = w.heap.size := by simp
  refine ⟨t, h'.rd, h'.hp, by rw [flatV_snoc]; exact ht, ?_, ?_, h'.bel, h.hA, h.hB⟩
  · intro x hx
    rcases List.mem_append.mp hx with hx | hx
    · have o1 := h.own x hx
      refine own_stepS o1 fun X hX => ?_
      have n1 : X ≠ A := fun e => own_typeS o1 h.ch (by decide) (by rw [← e]; exact hX)
      have n2 : X ≠ B := fun e => own_typeS o1 (show w.heap[B]? = some (.cells _ 66 (0, 0)) from h.rd) (by decide) (by rw [← e]; exact hX)
      exact (h'.kp X (by rw [hs]; exact (o1.lt X hX.symm).2) n1 n2).trans (Below.heap_setCell _ _ _ _ n1)
    · simp only [List.mem_singleton] at hx
      subst hx; exact ho
  · have n1 : X0 ≠ A := blk_ne h.bo h.ch (by decide)
    have n2 : X0 ≠ B := blk_ne h.bo h.rd (by decide)
    exact ((h'.kp X0 (by rw [hs]; exact lt_of_block h.bo) n1 n2).trans (Below.heap_setCell _ _ _ _ n1)).trans h.bo
theorem RwI.k0 {q m : Nat} {vals : List (Ch × Value)} {w : World} (h : RwI w0 A B X0 b q vals (m + 1) w) : w.cell? ⟨A, (flatV vals).length, none⟩ = some (.int .i64 0) ∧ w.frozen? ⟨A, (flatV vals).length, none⟩ = false := by
  have hc := h.ch
  rw [zs_succ] at hc
  refine ⟨?_, by simp [World.frozen?, hc]⟩
  simp only [World.cell?, hc]
  simp [zc, chC, Rc.zC]
theorem Try.infoC : (Try.prog.info? 32).map (fun i => (i.zero, i.size, i.bytes)) = some (some (.agg (chC (Rc.zC 0) (.slice none 0 0))), 10, 104) := by kernel_rfl
end Go.Proofs.Ytlgcimfbhjidgaa
end

section
namespace Go.Proofs.Ytlgcimfbhjidgaa
open Go.RowKit
open Rc (L V Ch)

/-- a new row in memory -/
structure RowN (w0 : World) (A : Nat) (vals : List (Ch × Value)) (w : World) : Prop where
  ch : w.heap[A]? = some (.cells (flatV vals).toArray 32 (0, 0))
  own : ∀ x ∈ vals, w.ownsRow w0.heap.size 9 1 x.2 x.1.tx.length (strs x.1.tx)
  hA : w0.heap.size ≤ A
  bel : Below w0.heap.size w0 w
def DPost (w0 : World) (x : Option (List Ch)) (e : Ending) (w' : World) : Prop :=
  match x with
  | some l => ∃ A vals, e = .returned (.slice (some ⟨A, 0, none⟩) vals.length vals.length) ∧ vals.map Prod.fst = l ∧ RowN w0 A vals w'
  | none => Gives e 83 ∧ RdQ w0 w'
theorem made_chs (n : Nat) : madeCells (chC (Rc.zC 0) (.slice none 0 0)) (n * 10) = (flatV [] ++ zs n).toArray := by
  have hzl : ∀ m, (zs m).length = m * 10 := by
    intro m
    induction m with
    | zero => rfl
    | succ m ih => rw [zs_succ, List.length_append, ih]; simp [zc, chC]; omega
  have hz : ∀ m i, i < m * 10 → (zs m)[i]? = (chC (Rc.zC 0) (.slice none 0 0))[i % 10]? := by
    intro m
    induction m with
    | zero => intro i h; omega
    | succ m ih =>
      intro i h
      rw [zs_succ]
      by_cases h10 : i < 10
      · rw [List.getElem?_append_left (by simpa [zc, chC] using h10), Nat.mod_eq_of_lt h10]; simp [zc]
      · have hl : zc.length = 10 := rfl
        rw [List.getElem?_append_right (by omega), hl, ih _ (by omega)]
        congr 1; omega
  apply Array.ext_getElem?
  intro i
  by_cases hi : i < n * 10
  · have h2 : i % 10 < (chC (Rc.zC 0) (.slice none 0 0)).size := by simp [chC]; omega
    simp only [flatV, List.flatMap_nil, List.nil_append, List.getElem?_toArray]
    rw [hz n i hi]
    have hs : (chC (Rc.zC 0) (.slice none 0 0)).size = 10 := rfl
    simp only [madeCells]
    rw [Array.getElem?_map, Array.getElem?_range, if_pos hi, Option.map_some, hs, getElem!_pos (chC (Rc.zC 0) (.slice none 0 0)) (i % 10) h2, Array.getElem?_eq_getElem h2]
  · rw [Array.getElem?_eq_none (by rw [size_madeCells]; omega), Array.getElem?_eq_none (by simp [flatV, hzl]; omega)]
theorem rCs_go {b : ByteArray} {n q q' : Nat} {c : Ch} (h : Rc.rC b q = some (c, q')) : Rc.rCs b (n + 1) q = (Rc.rCs b n q').map fun y => (c :: y.1, y.2) := by rw [Rc.rCs, h]; rfl
theorem rCs_no {b : ByteArray} {n q : Nat} (h : Rc.rC b q = none) : Rc.rCs b (n + 1) q = none := by rw [Rc.rCs, h]; rfl
set_option maxHeartbeats 1600000 in
theorem readRow_any (b : ByteArray) (hb : b.size ≤ 140737488351232) (w : World) : Calls Try.prog 9 #[.string b] w (DPost w (Rc.deco b)) := by
  obtain ⟨i0, hi0, hz0, hz1, hz2⟩ := info_parts Try.infoC
  generalize hE : Rc.deco b = E
  unfold Rc.deco at hE
  have HE := hide hE
  clear hE
  have HRD := hide (read_any b w)
  go_enter Try.func9, Try.ntmps9
  go_wp2_with fail
  refine HRD.out.mono ?_
  rintro e w2 ⟨rfl, hR2, hb2⟩
  generalize hBB : w.heap.size = B at *
  have hlt := lt_of_block hR2
  have hR3 := hR2.alloc (.cells #[.pointer (some ⟨B, 0, none⟩)] 48)
  have hB3 : Below B w (w2.alloc (.cells #[.pointer (some ⟨B, 0, none⟩)] 48)) := hb2.alloc (by omega) _
  have hX3 : Bo (w2.alloc (.cells #[.pointer (some ⟨B, 0, none⟩)] 48)) w2.heap.size B := heap_alloc_new w2 _
  have HR3 := hide hR3
  have HB3 := hide hB3
  have HX3 := hide hX3
  clear HRD hR2 hb2 hR3 hB3 hX3
  by_cases hs : b.size ≤ 2048
  case neg =>
    have hd : decide ((b.size : Int) ≤ 2048) = false := by simp; omega
    have HN := hide (need_no HR3.out false (.inr rfl))
    unfold rvB at HN
    go_wp2_with fail
    refine HN.out.mono ?_
    rintro e w4 ⟨he, hb4⟩
    have hE := HE.out
    rw [if_neg hs] at hE
    have HQ : Hid (RdQ w w4) := hide (by unfold RdQ; rw [hBB]; exact HB3.out.trans (hb4.mono (by have := HB3.out.size; omega)))
    unfold Gives at he
    subst he
    clear HN HE
    go_wp2
    refine ⟨rfl, ?_⟩
    subst hE
    exact ⟨rfl, HQ.out⟩
  have hd : decide ((b.size : Int) ≤ 2048) = true := by simp; omega
  have HN := hide (need_ok HR3.out)
  unfold rvB at HN
  go_wp2_with fail
  refine HN.out.mono ?_
  rintro e w4 ⟨rfl, hb4⟩
  have hE := HE.out
  rw [if_pos hs] at hE
  have HE4 := hide hE
  have hR4 := rd_below HR3.out hb4
  have HR4 := hide hR4
  have HB4 := hide (HB3.out.trans (hb4.mono (by have := HB3.out.size; omega)))
  have hX4 : Bo w4 w2.heap.size B := (hb4.block _ (lt_of_block HX3.out)).trans HX3.out
  have HX4 := hide hX4
  have cX := hX4.c
  have nXB : w2.heap.size ≠ B := blk_ne hX4 hR4 (by decide)
  have HM := hide (rnumber_any (p := 0) hR4 (Nat.zero_le _) hb 1 16 (by decide))
  unfold rvB at HM
  clear HN HE hE HR3 HB3 HX3 hb4 hR4 hX4 hd hs
  go_wp2_with fail
  refine HM.out.mono ?_
  intro e w5 hP
  cases hr : Rc.rN b 1 16 0 with
  | none =>
    rw [hr] at hP
    obtain ⟨he, hg⟩ := hP
    have HQ : Hid (RdQ w w5) := hide (by unfold RdQ; rw [hBB]; exact HB4.out.trans ⟨hg.os, hg.tape, hg.output, hg.size, fun k hk => hg.block _ (Nat.lt_of_lt_of_le hk (by have := HB4.out.size; omega)) (by simp; omega)⟩)
    have hE := HE4.out
    rw [hr, Option.bind_none] at hE
    unfold Gives at he
    subst he
    clear HM HE4 hg
    go_wp2
    refine ⟨rfl, ?_⟩
    subst hE
    exact ⟨rfl, HQ.out⟩
  | some y =>
  obtain ⟨n, q⟩ := y
  obtain ⟨hq, hn1, hn16, -⟩ := Rc.rN_form (Nat.zero_le _) hr
  rw [hr] at hP
  obtain ⟨⟨rfl, hR5⟩, hg⟩ := hP
  have hE := HE4.out
  rw [hr, Option.bind_some] at hE
  simp only at hE
  have HE5 := hide hE
  have hmk : (Instr.makeSlice 22 (.int .i64 (n : Int)) (.int .i64 (n : Int))).run Try.prog w5 = .ok (.slice (some ⟨w5.heap.size, 0, none⟩) n n) (w5.alloc (.cells (madeCells (chC (Rc.zC 0) (.slice none 0 0)) (n * 10)) 32)) := by
    have := run_make (P := Try.prog) w5 22 32 i0 _ Try.underlying22 hi0 hz0 .i64 .i64 (n : Int) (n : Int) (by omega) (Int.le_refl _) (by rw [hz2]; omega) (by omega)
    rw [Int.toNat_natCast, hz1] at this
    exact this
  have HI : Hid (RwI w w5.heap.size B w2.heap.size b q [] n (w5.alloc (.cells (madeCells (chC (Rc.zC 0) (.slice none 0 0)) (n * 10)) 32))) := hide (by
    have hB5 : Below w.heap.size w w5 := by rw [hBB]; exact HB4.out.trans ⟨hg.os, hg.tape, hg.output, hg.size, fun k hk => hg.block _ (Nat.lt_of_lt_of_le hk (by have := HB4.out.size; omega)) (by simp; omega)⟩
    refine ⟨hR5.alloc _, hq, by rw [heap_alloc_new, made_chs], by simp, (Below.heap_alloc _ _ _ (Nat.lt_of_lt_of_le (lt_of_block HX4.out) hg.size)).trans (HX4.out.grown nXB hg), hB5.alloc hB5.size _, hB5.size, by omega⟩)
  clear HM HE4 hg hR5 hE HX4 HB4 HR4 hr cX
  go_wp2_with fail
  generalize hAA : w5.heap.size = A at *
  generalize hXX : w2.heap.size = X0 at *
  generalize w5.alloc (.cells (madeCells (chC (Rc.zC 0) (.slice none 0 0)) (n * 10)) 32) = w6 at *
  go_loopw [19] (fun s wr => ∃ (k : Nat) (q' : Nat) (vals : List (Ch × Value)), k ≤ n ∧ s = .int .i64 (k : Int) ∧ vals.length = k ∧ Hid (Rc.rCs b n q = (Rc.rCs b (n - k) q').map fun y => (vals.map Prod.fst ++ y.1, y.2)) ∧ Hid (RwI w A B X0 b q' vals (n - k) wr)) (fun s _ => n - (intOf s).toNat)
  case atStart => exact ⟨0, q, [], Nat.zero_le _, rfl, rfl, hide (by cases Rc.rCs b (n - 0) q <;> rfl), HI⟩
  case round =>
    obtain ⟨k, q', vals, hk, rfl, hdl, HR, HK⟩ := hrel
    have hfl := flatV_len vals
    rw [hdl] at hfl
    by_cases hkl : k < n
    · have hki : (k : Int) < (n : Int) := by omega
      have cXr := HK.out.bo.c
      obtain ⟨m, hm⟩ : ∃ m, n - k = m + 1 := ⟨n - k - 1, by omega⟩
      rw [hm] at HR HK
      have HM := hide (rnumber_any HK.out.rd HK.out.hp hb 1 6 (by decide))
      unfold rvB at HM
      go_wp2_with fail
      refine HM.out.mono ?_
      intro e w7 hP
      cases hr : Rc.rN b 1 6 q' with
      | none =>
        rw [hr] at hP
        obtain ⟨he, hg⟩ := hP
        have HQ := hide (HK.out.giveG hg)
        have HE6 : Hid (E = none) := hide (by rw [← HE5.out, HR.out, rCs_no (by rw [Rc.rC, hr]; rfl)]; rfl)
        unfold Gives at he
        subst he
        clear HM HE5 hg HK HR
        go_wp2
        refine ⟨rfl, ?_⟩
        rw [HE6.out]
        exact ⟨rfl, HQ.out⟩
      | some y =>
      obtain ⟨K, q2⟩ := y
      obtain ⟨hq2, hK1, hK6, -⟩ := Rc.rN_form HK.out.hp hr
      rw [hr] at hP
      obtain ⟨⟨rfl, hR7⟩, hg⟩ := hP
      have h7 := HK.out.grown hg hR7 hq2
      obtain ⟨ck, zk⟩ := h7.k0
      have h8 := h7.start (K : Int)
      have hbo8 : Bo (w7.setCell ⟨A, (flatV vals).length, none⟩ (.int .i64 (K : Int))) X0 B := h7.bo.set (blk_ne h7.bo h7.ch (by decide)) _
      have cX8 := hbo8.c
      have HV := hide (fun (W : World) (hW : Below (w7.setCell ⟨A, (flatV vals).length, none⟩ (.int .i64 (K : Int))).heap.size (w7.setCell ⟨A, (flatV vals).length, none⟩ (.int .i64 (K : Int))) W) => rvisit_any (h8.below hW) hb (show 1 ≤ (Rc.zC (K : Int)).k ∧ (Rc.zC (K : Int)).k ≤ 6 by simp only [Rc.zC]; omega))
      have HNX := hide (fun (q3 : Nat) (c : Ch) (W : World) (hW : RdI w (w7.setCell ⟨A, (flatV vals).length, none⟩ (.int .i64 (K : Int))) A B b (flatV vals) (zs m) (q3, c) W) => h7.next hW)
      have HRC : Hid (Rc.rC b q' = Rc.rFs b (Rc.letters (K : Int)) q2 (Rc.zC (K : Int))) := hide (by rw [Rc.rC, hr]; rfl)
      unfold rvB at HV
      simp only [hfl] at ck zk HV cX8 HNX
      clear HM hg hR7 HK hr h7 h8 hbo8
      go_wp2_with fail
      generalize w7.setCell ⟨A, k * 10, none⟩ (.int .i64 (K : Int)) = w8 at *
      have hd8 : Below w8.heap.size w8 w8.drew := (Below.refl _ _).drew
      refine wp_region_held_drew (S := fun w' => w'.cell? ⟨X0, 0, none⟩ = some (.pointer (some ⟨B, 0, none⟩))) (by kernel_rfl) cX8 (fun hHeld => ?_)
      refine wpAnyH_take (i := 0) (v := .slice (some ⟨A, 0, none⟩) n n) rfl (by kernel_rfl) (by kernel_rfl) (by kernel_rfl) (fun _ _ _ h => h) (Or.inl ⟨by rfl, fun w1 hSw => by have hS1 := hSw; clear hHeld; go_simp⟩) hHeld ?_
      simp only [Act.put, List.setIfInBounds_toArray]
      refine wpAnyH_take (i := 1) (v := .int .i64 (k : Int)) rfl (by kernel_rfl) (by kernel_rfl) (by kernel_rfl) (fun _ _ _ h => h) (Or.inl ⟨by rfl, fun w1 hSw => by have hS1 := hSw; clear hHeld; go_simp⟩) hHeld ?_
      simp only [Act.put]
      refine wpAnyH_take (i := 2) (v := .pointer (some ⟨A, k * 10, none⟩)) rfl (by kernel_rfl) (by kernel_rfl) (by kernel_rfl) (fun _ _ _ h => h) (Or.inl ⟨by rfl, fun w1 hSw => by have hS1 := hSw; clear hHeld; go_simp⟩) hHeld ?_
      simp only [Act.put]
      refine wpAnyH_take (i := 3) (v := .agg #[.pointer (some ⟨B, 0, none⟩)]) rfl (by kernel_rfl) (by kernel_rfl) (by kernel_rfl) (fun _ _ _ h => h) (Or.inl ⟨by rfl, fun w1 hSw => by have hS1 := hSw; clear hHeld; go_simp⟩) hHeld ?_
      simp only [Act.put]
      refine wpAnyH_take (i := 4) (v := .iface 48 (.agg #[.pointer (some ⟨B, 0, none⟩)])) rfl (by kernel_rfl) (by kernel_rfl) (by kernel_rfl) (fun _ _ _ h => h) (Or.inl ⟨by rfl, fun w1 hSw => by have hS1 := hSw; clear hHeld; go_simp⟩) hHeld ?_
      simp only [Act.put]
      refine wpAnyH_ready (rs := [5]) (by kernel_rfl) (by simp) ?_
      refine AllReadyH.cons rfl (fun KK hKK => ?_) AllReadyH.nil
      go_simp
      refine (HV.out _ hd8).mono ?_
      intro e w9 hVP
      cases hrf : Rc.rFs b (Rc.letters (K : Int)) q2 (Rc.zC (K : Int)) with
      | none =>
        have hVP2 : Gives e 83 ∧ RdQ w w9 := by
          have := hVP
          simp only [show (Rc.zC (K : Int)).k = (K : Int) from rfl, hrf] at this; exact this
        obtain ⟨he, hQ⟩ := hVP2
        have HE6 : Hid (E = none) := hide (by rw [← HE5.out, HR.out, rCs_no (by rw [HRC.out, hrf])]; rfl)
        unfold Gives at he
        subst he
        refine ⟨rfl, ?_⟩
        rw [HE6.out]
        exact ⟨rfl, hQ⟩
      | some x =>
        obtain ⟨c, q3⟩ := x
        have hVP2 : e = .returned (.tuple #[]) ∧ RdI w w8 A B b (flatV vals) (zs m) (q3, c) w9 := by
          have := hVP
          simp only [show (Rc.zC (K : Int)).k = (K : Int) from rfl, hrf] at this; exact this
        obtain ⟨rfl, hI9⟩ := hVP2
        obtain ⟨t, h10⟩ := HNX.out _ _ _ hI9
        have H10 := hide h10
        have HR2 : Hid (Rc.rCs b n q = (Rc.rCs b m q3).map fun y => ((vals ++ [(c, t)]).map Prod.fst ++ y.1, y.2)) := hide (by rw [HR.out, rCs_go (by rw [HRC.out, hrf])]; cases Rc.rCs b m q3 <;> simp)
        refine hKK.out _ _ h10.bo.c (fun hHeld => ?_)
        refine wpAnyH_done (by kernel_rfl) ?_ _
        clear HV HNX HRC HR hI9 h10 hVP hrf
        go_wp2
        go_roundw
        case rel => exact ⟨k + 1, q3, vals ++ [(c, t)], by omega, by go_num, by simp [hdl], by rw [show n - (k + 1) = m by omega]; exact HR2, by rw [show n - (k + 1) = m by omega]; exact H10⟩
        case measure => simp [intOf]; omega
    · obtain rfl : k = n := by omega
      have hki : ¬ (k : Int) < (k : Int) := by omega
      rw [Nat.sub_self] at HR HK
      have hE := HE5.out
      rw [HR.out] at hE
      simp only [Rc.rCs, Option.map_some, Option.bind_some, List.append_nil] at hE
      have HE7 := hide hE
      have cXr := HK.out.bo.c
      clear HR HE5 hE
      have hp0 := HK.out.hp
      have HL := hide (fun (W : World) (hW : Below wr.heap.size wr W) => left_any (HK.out.below hW).rd (by omega) (by omega) hb)
      have hd1 : Below wr.heap.size wr wr.drew := (Below.refl _ _).drew
      by_cases hqe : q' = b.size
      · have hb0 : ((b.size : Int) - (q' : Int) == 0) = true := by simp; omega
        have hE := HE7.out
        rw [if_pos hqe] at hE
        have HE8 := hide hE
        clear hE HE7
        have HF : Hid (∀ w9, Below wr.heap.size wr w9 → RowN w A vals w9) := hide fun w9 h9 => by
          have := HK.out.below h9
          exact ⟨by have h2 := this.ch; simpa [zs] using h2, this.own, this.hA, this.bel⟩
        go_wp2_with fail
        refine wp_region_held_drew (S := fun w' => w'.cell? ⟨X0, 0, none⟩ = some (.pointer (some ⟨B, 0, none⟩))) (by kernel_rfl) cXr (fun hHeld => ?_)
        refine wpAnyH_take (i := 0) (v := .agg #[.pointer (some ⟨B, 0, none⟩)]) rfl (by kernel_rfl) (by kernel_rfl) (by kernel_rfl) (fun _ _ _ h => h) (Or.inl ⟨by rfl, fun w1 hSw => by have hS1 := hSw; clear hHeld; go_simp⟩) hHeld ?_
        simp only [Act.put, List.setIfInBounds_toArray]
        refine wpAnyH_take (i := 1) (v := .pointer (some ⟨X0, 0, none⟩)) rfl (by kernel_rfl) (by kernel_rfl) (by kernel_rfl) (fun _ _ _ h => h) (Or.inl ⟨by rfl, fun w1 hSw => by have hS1 := hSw; clear hHeld; go_simp⟩) hHeld ?_
        simp only [Act.put]
        refine wpAnyH_take (i := 2) (v := .pointer (some ⟨B, 0, none⟩)) rfl (by kernel_rfl) (by kernel_rfl) (by kernel_rfl) (fun _ _ _ h => h) (Or.inl ⟨by rfl, fun w1 hSw => by have hS1 := hSw; clear hHeld; go_simp⟩) hHeld ?_
        simp only [Act.put]
        refine wpAnyH_ready (rs := [3]) (by kernel_rfl) (by simp) ?_
        refine AllReadyH.cons rfl (fun K2 hK2 => ?_) AllReadyH.nil
        go_simp
        refine (HL.out _ hd1).mono ?_
        rintro e wn ⟨rfl, nn, hwn⟩
        have hbn : Below wr.heap.size wr wn := by rw [hwn]; exact hd1.trans (show Below wr.heap.size wr.drew (wr.drew.drewN nn) from drewN_below wr.drew nn)
        clear hwn
        have hRn := (HK.out.below hbn).rd
        refine hK2.out _ _ ((hbn.cell (p := ⟨X0, 0, none⟩) (World.block_lt_of_cell? _ _ cXr)).trans cXr) (fun hHeld => ?_)
        refine wpAnyH_take (i := 4) (v := .bool (((b.size : Int) - (q' : Int)) == 0)) rfl (by kernel_rfl) (by kernel_rfl) (by kernel_rfl) (fun _ _ _ h => h) (Or.inl ⟨by rfl, fun w1 hSw => by clear hHeld hb0; go_simp⟩) hHeld ?_
        simp only [Act.put]
        rw [hb0]
        refine wpAnyH_ready (rs := [5]) (by kernel_rfl) (by simp) ?_
        refine AllReadyH.cons rfl (fun K3 hK3 => ?_) AllReadyH.nil
        go_simp
        refine (need_ok hRn).mono ?_
        rintro e w9 ⟨rfl, hb9⟩
        have hb09 := hbn.trans (hb9.mono hbn.size)
        have HF2 := hide (HF.out _ hb09)
        refine hK3.out _ _ ((hb09.cell (p := ⟨X0, 0, none⟩) (World.block_lt_of_cell? _ _ cXr)).trans cXr) (fun hHeld => ?_)
        refine wpAnyH_done (by kernel_rfl) ?_ _
        clear HL HK HF hb9 hb09 hRn hbn
        go_wp2
        go_ret
        unfold DPost
        rw [← HE8.out]
        exact ⟨A, vals, by rw [hdl]; rfl, rfl, HF2.out⟩
      · have hb0 : ((b.size : Int) - (q' : Int) == 0) = false := by simp; omega
        have hE := HE7.out
        rw [if_neg hqe] at hE
        have HE8 := hide hE
        clear hE HE7
        go_wp2_with fail
        refine wp_region_held_drew (S := fun w' => w'.cell? ⟨X0, 0, none⟩ = some (.pointer (some ⟨B, 0, none⟩))) (by kernel_rfl) cXr (fun hHeld => ?_)
        refine wpAnyH_take (i := 0) (v := .agg #[.pointer (some ⟨B, 0, none⟩)]) rfl (by kernel_rfl) (by kernel_rfl) (by kernel_rfl) (fun _ _ _ h => h) (Or.inl ⟨by rfl, fun w1 hSw => by have hS1 := hSw; clear hHeld; go_simp⟩) hHeld ?_
        simp only [Act.put, List.setIfInBounds_toArray]
        refine wpAnyH_take (i := 1) (v := .pointer (some ⟨X0, 0, none⟩)) rfl (by kernel_rfl) (by kernel_rfl) (by kernel_rfl) (fun _ _ _ h => h) (Or.inl ⟨by rfl, fun w1 hSw => by have hS1 := hSw; clear hHeld; go_simp⟩) hHeld ?_
        simp only [Act.put]
        refine wpAnyH_take (i := 2) (v := .pointer (some ⟨B, 0, none⟩)) rfl (by kernel_rfl) (by kernel_rfl) (by kernel_rfl) (fun _ _ _ h => h) (Or.inl ⟨by rfl, fun w1 hSw => by have hS1 := hSw; clear hHeld; go_simp⟩) hHeld ?_
        simp only [Act.put]
        refine wpAnyH_ready (rs := [3]) (by kernel_rfl) (by simp) ?_
        refine AllReadyH.cons rfl (fun K2 hK2 => ?_) AllReadyH.nil
        go_simp
        refine (HL.out _ hd1).mono ?_
        rintro e wn ⟨rfl, nn, hwn⟩
        have hbn : Below wr.heap.size wr wn := by rw [hwn]; exact hd1.trans (show Below wr.heap.size wr.drew (wr.drew.drewN nn) from drewN_below wr.drew nn)
        clear hwn
        have hRn := (HK.out.below hbn).rd
        refine hK2.out _ _ ((hbn.cell (p := ⟨X0, 0, none⟩) (World.block_lt_of_cell? _ _ cXr)).trans cXr) (fun hHeld => ?_)
        refine wpAnyH_take (i := 4) (v := .bool (((b.size : Int) - (q' : Int)) == 0)) rfl (by kernel_rfl) (by kernel_rfl) (by kernel_rfl) (fun _ _ _ h => h) (Or.inl ⟨by rfl, fun w1 hSw => by clear hHeld hb0; go_simp⟩) hHeld ?_
        simp only [Act.put]
        rw [hb0]
        refine wpAnyH_ready (rs := [5]) (by kernel_rfl) (by simp) ?_
        refine AllReadyH.cons rfl (fun K3 hK3 => ?_) AllReadyH.nil
        go_simp
        refine (need_no hRn _ (.inr rfl)).mono ?_
        rintro e w9 ⟨he, hb9⟩
        have hQ : RdQ w w9 := (HK.out.below (hbn.trans (hb9.mono hbn.size))).bel
        unfold Gives at he
        subst he
        refine ⟨rfl, ?_⟩
        unfold DPost
        rw [← HE8.out]
        exact ⟨rfl, hQ⟩

end Go.Proofs.Ytlgcimfbhjidgaa
end
