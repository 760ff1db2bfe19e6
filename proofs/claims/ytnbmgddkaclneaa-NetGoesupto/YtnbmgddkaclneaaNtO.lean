import Derived.Test.YtnbmgddkaclneaaNtN
import Derived.RangeFuncNested
import Derived.RangeFuncBound
import Derived.RangeFuncCalls
import Derived.RangeFuncLeaves
import Derived.Shelf.Abstract
import Derived.Shelf.RegionOpen
import Derived.OwnWalkIn
import Derived.TacticsInMore
import Derived.LoopNIn
import Derived.LoopIn
import Derived.Sort.QuietIn
namespace Go.Proofs.Ytnbmgddkaclneaa
open Go.RowKit Go.Shelf

attribute [local go_sem] Oper.semAt_some

section
variable {F : Fence} {n : Nat} {P : Program} {ops : Array Oper} {md : Region.Mode} {C : World → Prop}
/-- no defer statement -/
def plainOp (o : Oper) : Bool := match o.op with
  | .defer _ => false
  | _ => true
theorem plainOp_ne {o : Oper} (h : plainOp o = true) : ∀ c, o.op ≠ .defer c := fun c e => by simp [plainOp, e] at h
theorem quiet_round_op {o : Oper} {a : Act} {K : Act → Prop} {K' : Act → World → Prop} {Q' : Exit → Act → World → Prop} {w : World} (hp : plainOp o = true) (hw : C w) (h : ∀ a w', C w' → K a → K' a w')
    (ha : o.askedIn F P a C) (hh : o.quietIn F n P a C K) : o.wpIn F n P a w K' Q' := by
  obtain ⟨v, h1, h2⟩ := hh
  have h3 := h1 w hw
  unfold Oper.quietAtIn at h3
  unfold Oper.wpIn
  refine ⟨ha w hw, ?_⟩
  rw [Oper.semAt_plain F a.eval o (plainOp_ne hp)]
  generalize (execOp a.eval o).run P w = r at *
  cases r with
  | ok x w' =>
    cases x <;> simp only [Oper.quietUponIn] at h3 <;> simp only [Oper.uponIn]
    case value u =>
      obtain ⟨e1, e2⟩ := h3
      rw [e1, e2]
      exact h _ _ hw h2
    case skip =>
      obtain ⟨e1, e2⟩ := h3
      rw [e1, ← e2]
      exact h _ _ hw h2
    case enter f args =>
      obtain ⟨e1, hd, hc⟩ := h3
      rw [e1]
      exact ⟨hd, hc.mono fun e w'' ⟨he, hw''⟩ => by subst he; exact h _ _ hw'' h2⟩
  | halt x w' => simp only [Oper.quietUponIn] at h3
theorem quiet_round_ops {i : Nat} {a : Act} {K : Act → Prop} {K' : Act → World → Prop} {Q' : Exit → Act → World → Prop} {w : World} (hp : ops.toList.all plainOp = true) (hC : C w) (h : ∀ a w', C w' → K a → K' a w')
    (hh : qOpIn F n P ops C i K a) : wpOpIn F n P ops Q' i K' a w := by
  unfold qOpIn at hh
  unfold wpOpIn
  split
  · rename_i ho; simp only [ho] at hh; exact h _ _ hC hh
  · rename_i o ho
    simp only [ho] at hh
    obtain ⟨ha, hh⟩ := hh
    have hpo : plainOp o = true := List.all_eq_true.1 hp o (by have := Array.getElem?_eq_some_iff.1 ho; obtain ⟨h1, h2⟩ := this; rw [← h2]; exact Array.getElem_mem_toList h1)
    split
    · rename_i hw; simp only [hw, if_true] at hh; exact quiet_round_op hpo hC h ha hh
    · rename_i hw; simp only [hw] at hh; exact ⟨ha w hC, h _ _ hC hh⟩
theorem quiet_round_any {Q : Act → Prop} {Q' : Exit → Act → World → Prop} (hp : ops.toList.all plainOp = true) (hQ : ∀ a w, C w → Q a → Q' .normal a w) : ∀ (fuel : Nat) (listed : Array Bool) (a : Act) (w : World), C w →
    wpAnyQIn F n P md ops C Q fuel listed a → wpAnyIn F n P md ops Q' fuel listed a w
  | 0, _, _, _, hw, h => ⟨h.1, hQ _ _ hw h.2⟩
  | fuel + 1, _, _, _, hw, h => ⟨fun h0 => hQ _ _ hw (h.1 h0), fun i hi => quiet_round_ops hp hw (fun a' w' hw' => quiet_round_any hp hQ fuel _ a' w' hw') (h.2 i hi)⟩
/-- a region that only reads, in a round -/
theorem quiet_round {id : Nat} {Q : Exit → Act → World → Prop} {a : Act} {w : World} {l : List Oper} (hp : l.all plainOp = true) (hm : P.follows .mixedOrders = true) (hB : Region.lexB .any l.toArray = true)
    (h : wpQuietIn F n P l.toArray (fun w' => ∃ n, w' = w.drewN n) (fun a' => ∀ w', (∃ n, w' = w.drewN n) → Q .normal a' w') l a) : (Code.region id l.toArray true).wpIn F n P Q a w := by
  simp only [Region.lexB, Bool.and_eq_true] at hB
  refine wpIn_region_any hm (quiet_round_any (C := fun w' => ∃ n, w' = w.drewN n) (Q := fun a' => ∀ w', (∃ n, w' = w.drewN n) → Q .normal a' w') (by simpa using hp) (fun _ w' hw' h => h w' hw') _ _ _ _ ⟨1, rfl⟩ ?_)
  have := wpAnyQIn_lex (F := F) (n := n) (C := fun w' => ∃ n, w' = w.drewN n) (md := .any) hB.1 l 0 (Array.replicate l.toArray.size false) a (by simp) (by simpa using hB.2) h
  simpa using this
end

/-- what a round may turn: of the cells the blocks of FF alone -/
structure Kc (FF : World → Nat → Prop) (W W' : World) : Prop where
  size : W.heap.size ≤ W'.heap.size
  block : ∀ k o, W.heap[k]? = some o → o.isCells = true → ¬ FF W k → W'.heap[k]? = some o
  foot : ∀ k, FF W' k → FF W k ∨ W.heap.size ≤ k
theorem Kc.trans {FF : World → Nat → Prop} {A B C : World} (h : Kc FF A B) (k : Kc FF B C) : Kc FF A C :=
  ⟨Nat.le_trans h.size k.size, fun i o hi ho hn => k.block i o (h.block i o hi ho hn) ho (fun hf => (h.foot i hf).elim hn (fun h2 => absurd (lt_of_block hi) (by omega))),
    fun i hi => (k.foot i hi).elim (h.foot i) (fun h2 => .inr (Nat.le_trans h.size h2))⟩

set_option maxHeartbeats 1000000 in
theorem all_in (n : Nat) (b : Nat) (w : World) :
    CallsIn Fence.wide n Try.prog 14 #[.pointer (some ⟨b, 0, none⟩)] w fun e w' => e = .returned (.func (.func 28) #[] #[.pointer (some ⟨w.heap.size, 0, none⟩)]) ∧ w' = w.alloc (.cells #[.pointer (some ⟨b, 0, none⟩)] 23) := by
  refine callsIn_of_wp Try.func14 rfl trivial ?_ rfl
  simp only [Try.ntmps14, List.size_toArray, List.length_cons, List.length_nil, Nat.reduceAdd, Nat.reduceSub, Array.replicate_succ, Array.replicate_zero, List.push_toArray, List.append_toArray, List.nil_append, List.cons_append]
  gi_wp2
  go_ret
  exact ⟨rfl, rfl⟩

theorem own_get {w : World} {base g cap : Nat} {l : List Dg} (h : w.ownsRow base 46 6 (.slice (some ⟨g, 0, none⟩) l.length cap) l.length (dcs l)) {i : Nat} (hi : i < l.length) :
    w.cell? ⟨g, i * 6, none⟩ = some (.int .i64 (l[i]?.getD dg0).num) ∧ w.cell? ⟨g, i * 6 + 1, none⟩ = some (.int .i64 (l[i]?.getD dg0).fn) ∧ w.cell? ⟨g, i * 6 + 2, none⟩ = some (.int .i64 (l[i]?.getD dg0).fl) ∧
    w.cell? ⟨g, i * 6 + 3, none⟩ = some (.int .i64 (l[i]?.getD dg0).tn) ∧ w.cell? ⟨g, i * 6 + 4, none⟩ = some (.int .i64 (l[i]?.getD dg0).tl) ∧ w.cell? ⟨g, i * 6 + 5, none⟩ = some (.string (l[i]?.getD dg0).data) := by
  have e : l[i]?.getD dg0 = l[i] := by rw [List.getElem?_eq_getElem hi]; rfl
  rw [e]
  have c : ∀ k, k < 6 → w.cell? ⟨g, i * 6 + k, none⟩ = (l[i]).cs[k]? := fun k hk => by
    have h1 := dcs_get l i k hi hk
    obtain ⟨u, hu⟩ : ∃ u, (l[i]).cs[k]? = some u := ⟨_, List.getElem?_eq_getElem (show k < 6 from hk)⟩
    rw [hu] at h1 ⊢
    have := h.cells (g := g) rfl (i * 6 + k) u h1
    rw [Addr.add_lit, Nat.zero_add] at this
    exact this
  exact ⟨c 0 (by decide), c 1 (by decide), c 2 (by decide), c 3 (by decide), c 4 (by decide), c 5 (by decide)⟩
theorem grown_of_below {w w' : World} (h : Below w.heap.size w w') : w.grownBy w' none := ⟨h.os, h.tape, h.output, h.size, fun k hk _ => h.block k hk⟩
theorem own_cells {w : World} {base g n cap size : Nat} {e : TypeId} {xs : List Value} (h : w.ownsRow base e size (.slice (some ⟨g, 0, none⟩) n cap) n xs) : ∃ o : Obj, w.heap[g]? = some o ∧ o.isCells = true := by
  rcases h.2 with ⟨h1, _⟩ | ⟨g', cap', cur, h1, hb, hg, _⟩
  · cases h1
  · injection h1 with e1 e2 e3
    injection e1 with e1
    injection e1 with e1
    subst e1
    exact ⟨_, hg, rfl⟩
theorem own_same {w w' : World} {base g n cap size : Nat} {e : TypeId} {xs : List Value} (h : w.ownsRow base e size (.slice (some ⟨g, 0, none⟩) n cap) n xs) (hs : w'.heap[g]? = w.heap[g]?) : w'.ownsRow base e size (.slice (some ⟨g, 0, none⟩) n cap) n xs := by
  refine ⟨h.1, ?_⟩
  rcases h.2 with ⟨h1, _⟩ | ⟨g', cap', cur, h1, hb, hg, h2⟩
  · cases h1
  · injection h1 with e1 e2 e3
    injection e1 with e1
    injection e1 with e1
    subst e1; subst e3
    exact .inr ⟨g, cap, cur, rfl, hb, hs.trans hg, h2⟩

set_option maxRecDepth 100000 in
set_option maxHeartbeats 2000000 in
theorem all1_in (n : Nat) (hn : 1 ≤ n) (l Bs B base : Nat) (v : Value) (L : List Dg) (s : Int) (FF : World → Nat → Prop) (J Jx : List Nat → World → Prop) (W : World)
    (hFg : ∀ A A', W.heap.size ≤ A.heap.size → Below A.heap.size A A' → ∀ k, k < A.heap.size → FF A' k → FF A k) (hFn : ∀ A, Below W.heap.size W A → ∀ k, W.heap.size ≤ k → ¬ FF A k)
    (hJ : AbidesFrom W.heap.size J)
    (hY : ∀ (pre : List Nat) (x : Nat) (W1 : World), J pre W1 → pre.length < L.length → YieldAt Fence.wide (n - 1) Try.prog l #[.int .i64 (x : Int), (L[x]?.getD dg0).val] W1 fun e W' =>
      (e = .returned (.bool true) ∧ J (pre ++ [x]) W' ∧ Kc FF W1 W') ∨ (e = .returned (.bool false) ∧ Jx (pre ++ [x]) W'))
    (hBs : W.cell? ⟨Bs, 0, none⟩ = some (.pointer (some ⟨B, 0, none⟩))) (hB : Bag 58 base W B v L s) (hl : L.length * 56 ≤ 140737488355328) (h0 : J [] W) :
    CallsIn Fence.wide n Try.prog 28 #[.func (.yield l) #[] #[], .pointer (some ⟨Bs, 0, none⟩)] W fun e W' => (∃ v, e = .returned v) ∧
      ((∃ ys, ys = List.range L.length ∧ J ys W') ∨ (∃ pre, (∃ k, k ≤ L.length ∧ pre = List.range k) ∧ Jx pre W')) := by
  have c0 := hB.c0
  refine callsIn_of_wp Try.func28 rfl trivial ?_ rfl
  simp only [Try.ntmps28, List.size_toArray, List.length_cons, List.length_nil, Nat.reduceAdd, Nat.reduceSub, Array.replicate_succ, Array.replicate_zero, List.push_toArray, List.append_toArray, List.nil_append, List.cons_append]
  have HB := hide hB
  have HF := hide hFg
  have HN := hide hFn
  have HJ := hide hJ
  have HY := hide hY
  clear hB hFg hFn hJ hY
  gi_wp2_with fail
  refine ⟨trivial, (callsIn_wide.2 (clone_any HB.out.row hl)).mono ?_⟩
  rintro e w1 ⟨v', rfl, hown, hb1⟩
  have HL1 := hide hb1
  have HJ1 := hide (HJ.out [] W w1 none h0 (grown_of_below hb1) (fun r e => by cases e))
  clear h0 hBs c0 hb1
  rcases own_form hown with ⟨rfl, hz⟩ | ⟨g, cap, rfl, hg⟩
  · clear hown
    gi_wp2_with fail
    gi_loopw [11] (fun i wr => i = .int .i64 0 ∧ Hid (J [] wr)) (fun _ _ => 0)
    case atStart => exact ⟨rfl, HJ1⟩
    case round =>
      obtain ⟨rfl, hJs⟩ := hrel
      gi_wp2
      go_end0
      exact ⟨⟨_, rfl⟩, .inl ⟨_, rfl, by rw [hz]; exact hJs.out⟩⟩
  · have HO := hide hown
    have hgW : W.heap.size ≤ g := (hown.lt g rfl).1
    have HNF : Hid (¬ FF w1 g) := HN.out w1 HL1.out g hgW
    clear hown
    gi_wp2_with fail
    gi_loopw [11] (fun i wr => ∃ k : Nat, k ≤ L.length ∧ i = .int .i64 (k : Int) ∧ Hid (J (List.range k) wr) ∧ Hid (wr.ownsRow W.heap.size 46 6 (.slice (some ⟨g, 0, none⟩) L.length cap) L.length (dcs L)) ∧ Hid (¬ FF wr g) ∧ Hid (W.heap.size ≤ wr.heap.size)) (fun i _ => L.length - (intOf i).toNat)
    case atStart => exact ⟨0, Nat.zero_le _, rfl, HJ1, HO, HNF, HL1.out.size⟩
    case round =>
      obtain ⟨k, hk, rfl, HJs, HOs, HNs, HSs⟩ := hrel
      clear HJ1 HO HNF
      by_cases hlt : k < L.length
      · obtain ⟨q0, q1, q2, q3, q4, q5⟩ := own_get HOs.out hlt
        have hgs : g < wr.heap.size := (HOs.out.lt g rfl).2
        obtain ⟨fn, tmps, assign, body, hy, hR⟩ := HY.out (List.range k) k (wr.alloc (.cells #[.int .i64 (L[k]?.getD dg0).num, .int .i64 (L[k]?.getD dg0).fn, .int .i64 (L[k]?.getD dg0).fl, .int .i64 (L[k]?.getD dg0).tn, .int .i64 (L[k]?.getD dg0).tl, .string (L[k]?.getD dg0).data] 46)) (HJ.out _ _ _ none HJs.out (World.grownBy_alloc wr _ none) (fun r e => by cases e)) (by rw [List.length_range]; exact hlt)
        have HR := hide hR
        clear hR
        generalize L[k]?.getD dg0 = d at *
        gi_wp2_with fail
        refine HR.out.mono ?_
        rintro e W3 (⟨rfl, hJ3, hk3⟩ | ⟨rfl, hJx3⟩)
        · have hJ3' : Hid (J (List.range (k + 1)) W3) := by rw [List.range_succ]; exact hJ3
          have HO3 : Hid (W3.ownsRow W.heap.size 46 6 (.slice (some ⟨g, 0, none⟩) L.length cap) L.length (dcs L)) := by
            obtain ⟨o, ho, hoc⟩ := own_cells HOs.out
            have h1 : (wr.alloc (.cells #[.int .i64 d.num, .int .i64 d.fn, .int .i64 d.fl, .int .i64 d.tn, .int .i64 d.tl, .string d.data] 46)).heap[g]? = some o := (Below.heap_alloc wr _ _ hgs).trans ho
            exact own_same HOs.out ((hk3.block g o h1 hoc (fun hf => HNs.out (HF.out _ _ HSs.out ((Below.refl _ wr).alloc (Nat.le_refl _) _) g hgs hf))).trans ho.symm)
          have HN3 : Hid (¬ FF W3 g) := fun hf => (hk3.foot g hf).elim (fun hf => HNs.out (HF.out _ _ HSs.out ((Below.refl _ wr).alloc (Nat.le_refl _) _) g hgs hf)) (fun h2 => by rw [World.size_alloc] at h2; omega)
          have HS3 : Hid (W.heap.size ≤ W3.heap.size) := Nat.le_trans HSs.out (Nat.le_trans (by rw [World.size_alloc]; omega) hk3.size)
          clear hJ3 hk3 HJs HOs HNs HSs q0 q1 q2 q3 q4 q5 hy HR
          gi_wp2
          go_roundw
          case rel => exact ⟨k + 1, by omega, by go_num, hJ3', HO3, HN3, HS3⟩
          case measure => simp [intOf]; omega
        · have HX : Hid (Jx (List.range (k + 1)) W3) := by rw [List.range_succ]; exact hJx3
          clear hJx3
          gi_wp2
          refine bodyPost_ret (results_none rfl _ _ _) rfl ?_
          exact ⟨⟨_, rfl⟩, .inr ⟨_, ⟨k + 1, by omega, rfl⟩, HX.out⟩⟩
      · obtain rfl : k = L.length := by omega
        have hb : decide ((L.length : Int) < (L.length : Int)) = false := by simp
        clear hlt
        gi_wp2
        go_end0
        exact ⟨⟨_, rfl⟩, .inl ⟨_, rfl, HJs.out⟩⟩

/-- the iterator's contract -/
theorem all_stops (n : Nat) (hn : 1 ≤ n) (Bs B base : Nat) (v : Value) (L : List Dg) (s : Int) (FF : World → Nat → Prop) (w : World)
    (hFg : ∀ A A', w.heap.size ≤ A.heap.size → Below A.heap.size A A' → ∀ k, k < A.heap.size → FF A' k → FF A k) (hFn : ∀ A A', Below w.heap.size w A → Below A.heap.size A A' → ∀ k, A.heap.size ≤ k → ¬ FF A' k)
    (hBl : Bs < w.heap.size) (hBs : w.cell? ⟨Bs, 0, none⟩ = some (.pointer (some ⟨B, 0, none⟩))) (hB : Bag 58 base w B v L s) (hl : L.length * 56 ≤ 140737488355328) :
    SeqStopsK Fence.wide n Try.prog 28 #[.pointer (some ⟨Bs, 0, none⟩)] (fun x : Nat => #[Value.int .i64 (x : Int), (L[x]?.getD dg0).val]) (Kc FF) (fun ys => ys = List.range L.length) (fun pre => ∃ k, k ≤ L.length ∧ pre = List.range k) L.length w := fun l J Jx W hW hJ _ hY h0 =>
  all1_in n hn l Bs B base v L s FF J Jx W (fun A A' hA hb => hFg A A' (Nat.le_trans hW.size hA) hb) (fun A hA k hk => hFn W A hW hA k hk) hJ hY ((hW.cell (p := ⟨Bs, 0, none⟩) hBl).trans hBs) (hB.below hW) hl h0
end Go.Proofs.Ytnbmgddkaclneaa
