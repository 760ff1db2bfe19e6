import Derived.Test.YtjpcghkdedldiaaLsC
namespace Go.Proofs.Ytjpcghkdedldiaa
open Go.RowKit Go.Shelf

attribute [local go_sem] Oper.semAt_some

section
variable {F : Fence} {n : Nat} {P : Program} {ops : Array Oper} {md : Region.Mode} {C : World → Prop}
/-- no defer statement -/
def plainOp (o : Oper) : Bool := match o.op with
  | .defer _ => false
  | _ => true
theorem plainOp_ne {o : Oper} (h : plainOp o = true) : ∀ c, o.op ≠ .defer c := fun c e => by simp [plainOp, e] at h
theorem quiet_round_op {o : Oper} {a : Act} {K : Act → Prop} {K' : Act → World → Prop} {Q' : Exit → Act → World → Prop} {w : World} (hp : plainOp o = true) (hw : C w) (h : ∀ a w', C w' → K a → K' a w')
    (ha : o.askedIn F P a C) (hh : o.quietIn F n P a C K) : o.wpIn F n P a w K' Q' := by
  obtain ⟨v, h1, h2⟩ := hh
  have h3 := h1 w hw
  unfold Oper.quietAtIn at h3
  unfold Oper.wpIn
  refine ⟨ha w hw, ?_⟩
  rw [Oper.semAt_plain F a.eval o (plainOp_ne hp)]
  generalize (execOp a.eval o).run P w = r at *
  cases r with
  | ok x w' =>
    cases x <;> simp only [Oper.quietUponIn] at h3 <;> simp only [Oper.uponIn]
    case value u =>
      obtain ⟨e1, e2⟩ := h3
      rw [e1, e2]
      exact h _ _ hw h2
    case skip =>
      obtain ⟨e1, e2⟩ := h3
      rw [e1, ← e2]
      exact h _ _ hw h2
    case enter f args =>
      obtain ⟨e1, hd, hc⟩ := h3
      rw [e1]
      exact ⟨hd, hc.mono fun e w'' ⟨he, hw''⟩ => by subst he; exact h _ _ hw'' h2⟩
  | halt x w' => simp only [Oper.quietUponIn] at h3
theorem quiet_round_ops {i : Nat} {a : Act} {K : Act → Prop} {K' : Act → World → Prop} {Q' : Exit → Act → World → Prop} {w : World} (hp : ops.toList.all plainOp = true) (hC : C w) (h : ∀ a w', C w' → K a → K' a w')
    (hh : qOpIn F n P ops C i K a) : wpOpIn F n P ops Q' i K' a w := by
  unfold qOpIn at hh
  unfold wpOpIn
  split
  · rename_i ho; simp only [ho] at hh; exact h _ _ hC hh
  · rename_i o ho
    simp only [ho] at hh
    obtain ⟨ha, hh⟩ := hh
    have hpo : plainOp o = true := List.all_eq_true.1 hp o (by have := Array.getElem?_eq_some_iff.1 ho; obtain ⟨h1, h2⟩ := this; rw [← h2]; exact Array.getElem_mem_toList h1)
    split
    · rename_i hw; simp only [hw, if_true] at hh; exact quiet_round_op hpo hC h ha hh
    · rename_i hw; simp only [hw] at hh; exact ⟨ha w hC, h _ _ hC hh⟩
theorem quiet_round_any {Q : Act → Prop} {Q' : Exit → Act → World → Prop} (hp : ops.toList.all plainOp = true) (hQ : ∀ a w, C w → Q a → Q' .normal a w) : ∀ (fuel : Nat) (listed : Array Bool) (a : Act) (w : World), C w →
    wpAnyQIn F n P md ops C Q fuel listed a → wpAnyIn F n P md ops Q' fuel listed a w
  | 0, _, _, _, hw, h => ⟨h.1, hQ _ _ hw h.2⟩
  | fuel + 1, _, _, _, hw, h => ⟨fun h0 => hQ _ _ hw (h.1 h0), fun i hi => quiet_round_ops hp hw (fun a' w' hw' => quiet_round_any hp hQ fuel _ a' w' hw') (h.2 i hi)⟩
/-- a region that only reads, in a round -/
theorem quiet_round {id : Nat} {Q : Exit → Act → World → Prop} {a : Act} {w : World} {l : List Oper} (hp : l.all plainOp = true) (hm : P.follows .mixedOrders = true) (hB : Region.lexB .any l.toArray = true)
    (h : wpQuietIn F n P l.toArray (fun w' => ∃ n, w' = w.drewN n) (fun a' => ∀ w', (∃ n, w' = w.drewN n) → Q .normal a' w') l a) : (Code.region id l.toArray true).wpIn F n P Q a w := by
  simp only [Region.lexB, Bool.and_eq_true] at hB
  refine wpIn_region_any hm (quiet_round_any (C := fun w' => ∃ n, w' = w.drewN n) (Q := fun a' => ∀ w', (∃ n, w' = w.drewN n) → Q .normal a' w') (by simpa using hp) (fun _ w' hw' h => h w' hw') _ _ _ _ ⟨1, rfl⟩ ?_)
  have := wpAnyQIn_lex (F := F) (n := n) (C := fun w' => ∃ n, w' = w.drewN n) (md := .any) hB.1 l 0 (Array.replicate l.toArray.size false) a (by simp) (by simpa using hB.2) h
  simpa using this
end

/-- what a round may turn: of the cells the blocks of FF alone -/
structure Kc (FF : World → Nat → Prop) (W W' : World) : Prop where
  size : W.heap.size ≤ W'.heap.size
  block : ∀ k o, W.heap[k]? = some o → o.isCells = true → ¬ FF W k → W'.heap[k]? = some o
  foot : ∀ k, FF W' k → FF W k ∨ W.heap.size ≤ k
theorem Kc.trans {FF : World → Nat → Prop} {A B C : World} (h : Kc FF A B) (k : Kc FF B C) : Kc FF A C :=
  ⟨Nat.le_trans h.size k.size, fun i o hi ho hn => k.block i o (h.block i o hi ho hn) ho (fun hf => (h.foot i hf).elim hn (fun h2 => absurd (lt_of_block hi) (by omega))),
    fun i hi => (k.foot i hi).elim (h.foot i) (fun h2 => .inr (Nat.le_trans h.size h2))⟩

theorem grown_of_below {w w' : World} (h : Below w.heap.size w w') : w.grownBy w' none := ⟨h.os, h.tape, h.output, h.size, fun k hk _ => h.block k hk⟩
theorem own_cells {w : World} {base g n cap size : Nat} {e : TypeId} {xs : List Value} (h : w.ownsRow base e size (.slice (some ⟨g, 0, none⟩) n cap) n xs) : ∃ o : Obj, w.heap[g]? = some o ∧ o.isCells = true := by
  rcases h.2 with ⟨h1, _⟩ | ⟨g', cap', cur, h1, hb, hg, _⟩
  · cases h1
  · injection h1 with e1 e2 e3
    injection e1 with e1
    injection e1 with e1
    subst e1
    exact ⟨_, hg, rfl⟩
theorem own_same {w w' : World} {base g n cap size : Nat} {e : TypeId} {xs : List Value} (h : w.ownsRow base e size (.slice (some ⟨g, 0, none⟩) n cap) n xs) (hs : w'.heap[g]? = w.heap[g]?) : w'.ownsRow base e size (.slice (some ⟨g, 0, none⟩) n cap) n xs := by
  refine ⟨h.1, ?_⟩
  rcases h.2 with ⟨h1, _⟩ | ⟨g', cap', cur, h1, hb, hg, h2⟩
  · cases h1
  · injection h1 with e1 e2 e3
    injection e1 with e1
    injection e1 with e1
    subst e1; subst e3
    exact .inr ⟨g, cap, cur, rfl, hb, hs.trans hg, h2⟩

theorem own_form {w : World} {B : Nat} {e : TypeId} {size n : Nat} {v : Value} {xs : List Value} (h : w.ownsRow B e size v n xs) : (v = .slice none 0 0 ∧ n = 0) ∨ ∃ g cap, v = .slice (some ⟨g, 0, none⟩) n cap ∧ g < w.heap.size := by
  rcases h.2 with h1 | ⟨g, cap, cur, rfl, hg, hh, _⟩
  · exact .inl h1
  · exact .inr ⟨g, cap, rfl, lt_of_block hh⟩
theorem own_slice {w : World} {B : Nat} {e : TypeId} {size n : Nat} {v : Value} {xs : List Value} (h : w.ownsRow B e size v n xs) : ∃ ad cap, v = .slice ad n cap := by
  rcases own_form h with ⟨h1, rfl⟩ | ⟨g, cap, h1, _⟩
  · exact ⟨_, _, h1⟩
  · exact ⟨_, _, h1⟩

set_option maxHeartbeats 1000000 in
theorem values_any (m0 : Nat) (w : World) :
    Calls Try.prog 34 #[.map (some m0)] w fun e w' => e = .returned (.func (.func 39) #[] #[.pointer (some ⟨w.heap.size, 0, none⟩)]) ∧ w' = w.alloc (.cells #[.map (some m0)] 63) := by
  go_enter Try.func34, Try.ntmps34
  go_wp2
  go_ret
  exact ⟨rfl, rfl⟩

set_option maxRecDepth 100000 in
set_option maxHeartbeats 2000000 in
theorem values1_in (n : Nat) (hn : 1 ≤ n) (l Bs m : Nat) (L : List Lz) (J Jx : List Lz → World → Prop) (W : World) (hJ : AbidesFrom W.heap.size J)
    (hY : ∀ (pre : List Lz) (x : Lz) (W1 : World), J pre W1 → pre.length < L.length → YieldAt Fence.wide (n - 1) Try.prog l #[x.val] W1 fun e W' =>
      (e = .returned (.bool true) ∧ J (pre ++ [x]) W' ∧ KeepsWalks W1 W') ∨ (e = .returned (.bool false) ∧ Jx (pre ++ [x]) W'))
    (hBs : W.cell? ⟨Bs, 0, none⟩ = some (.map (some m))) (hL : Lm W m L) (h0 : J [] W) :
    CallsIn Fence.wide n Try.prog 39 #[.func (.yield l) #[] #[], .pointer (some ⟨Bs, 0, none⟩)] W fun e W' => (∃ v, e = .returned v) ∧
      ((∃ ys : List Lz, ys.Perm L ∧ J ys W') ∨ (∃ pre : List Lz, True ∧ Jx pre W')) := by
  refine callsIn_of_wp Try.func39 rfl trivial ?_ rfl
  simp only [Try.ntmps39, List.size_toArray, List.length_cons, List.length_nil, Nat.reduceAdd, Nat.reduceSub, Array.replicate_succ, Array.replicate_zero, List.push_toArray, List.append_toArray, List.nil_append, List.cons_append]
  obtain ⟨W1, hrng, hMi, hg, hsz⟩ := hL.range
  have HJ1 := hide (hJ [] W W1 none h0 hg (fun r e => by cases e))
  have HM1 := hide hMi
  have HJ := hide hJ
  have HY := hide hY
  clear hJ hY hMi hL h0 hg hsz
  gi_wp2_with fail
  gi_loopw [7] (fun _ wr => ∃ pre rest : List Lz, Hid ((pre ++ rest).Perm L) ∧ Hid (J pre wr) ∧ Hid (Mi wr m W.heap.size L rest)) (fun _ wr => wr.rangeLeft m W.heap.size)
  case atStart => exact ⟨[], L, .refl _, HJ1, HM1⟩
  case round =>
    clear HJ1 HM1 hBs hrng
    obtain ⟨pre, rest, HP, HJs, HMs⟩ := hrel
    rcases HMs.out.next 0 with ⟨hz, hrun⟩ | ⟨x, rest', W2, hpx, hrun, hM2, hent, hg2, hs2⟩
    · have hrun2 : ∀ ty, (Instr.next (.pointer (some ⟨W.heap.size, 0, none⟩)) false ty).run Try.prog wr = .ok (.tuple #[.bool false]) wr := fun _ => hrun
      clear hrun
      gi_wp2_with fail
      go_end0
      refine ⟨⟨_, rfl⟩, .inl ⟨pre, ?_, HJs.out⟩⟩
      have := HP.out
      rw [hz, List.append_nil] at this
      exact this
    · have hrun2 : ∀ ty, (Instr.next (.pointer (some ⟨W.heap.size, 0, none⟩)) false ty).run Try.prog wr = .ok (.tuple #[.bool true, .int .i64 x.bdg, x.val]) W2 := fun _ => hrun
      clear hrun
      have HL : Hid (wr.rangeLeft m W.heap.size = rest.length) := HMs.out.left
      have hit : ∃ o : Obj, wr.heap[W.heap.size]? = some o ∧ o.isWalk = true := HMs.out.iter
      have HJ2 := hide (HJ.out pre wr W2 (some W.heap.size) HJs.out hg2 (fun r e => by cases e; exact ⟨Nat.le_refl _, hit⟩))
      have hlen : pre.length < L.length := by
        have h1 := HP.out.length_eq
        have h2 := hpx.length_eq
        simp only [List.length_append, List.length_cons] at h1 h2
        omega
      have HP2 : Hid (((pre ++ [x]) ++ rest').Perm L) := by
        refine List.Perm.trans ?_ HP.out
        rw [List.append_assoc]
        exact (List.Perm.refl pre).append hpx.symm
      have HR2 : Hid (rest'.length < rest.length) := by
        have h2 := hpx.length_eq
        simp only [List.length_cons] at h2
        show rest'.length < rest.length
        omega
      obtain ⟨fn, tmps, assign, body, hy, hR⟩ := HY.out pre x (W2.alloc x.obj) (HJ.out _ _ _ none HJ2.out (World.grownBy_alloc W2 _ none) (fun r e => by cases e)) hlen
      have HR := hide hR
      have HM2 := hide (Mi.walks hM2 (KeepsWalks.alloc W2 x.obj))
      clear hR hM2 hg2 hs2 hpx hit
      gi_wp2_with fail
      refine HR.out.mono ?_
      rintro e W3 (⟨rfl, hJ3, hk3⟩ | ⟨rfl, hJx3⟩)
      · have HJ3 := hide hJ3
        have HM3 := hide (HM2.out.walks hk3)
        clear hJ3 hk3
        gi_wp2_with fail
        go_roundw
        case rel => exact ⟨pre ++ [x], rest', HP2, HJ3, HM3⟩
        case measure => rw [HM3.out.left, HL.out]; exact HR2.out
      · have HX := hide hJx3
        clear hJx3
        gi_wp2_with fail
        refine bodyPost_ret (results_none rfl _ _ _) rfl ?_
        exact ⟨⟨_, rfl⟩, .inr ⟨_, trivial, HX.out⟩⟩
/-- maps.Values, as an iterator -/
theorem values_stops (n : Nat) (hn : 1 ≤ n) (Bs m : Nat) (L : List Lz) (w : World) (hBl : Bs < w.heap.size) (hBs : w.cell? ⟨Bs, 0, none⟩ = some (.map (some m))) (hL : Lm w m L) :
    SeqStopsK Fence.wide n Try.prog 39 #[.pointer (some ⟨Bs, 0, none⟩)] (fun x : Lz => #[x.val]) KeepsWalks (fun ys => ys.Perm L) (fun _ => True) L.length w := fun l J Jx W hW hJ _ hY h0 =>
  values1_in n hn l Bs m L J Jx W hJ hY ((hW.cell (p := ⟨Bs, 0, none⟩) hBl).trans hBs) (hL.below hW) h0
end Go.Proofs.Ytjpcghkdedldiaa
