import Derived.Test.YtjpcghkdedldiaaLsG
namespace Go.Proofs.Ytjpcghkdedldiaa
open Go.RowKit Go.Shelf

attribute [local go_sem] Oper.semAt_some

/-- a table in memory -/
structure Tb (w : World) (b m : Nat) (T : Int) (L : List Lz) : Prop where
  blk : w.heap[b]? = some (.cells #[.int .i64 T, .map (some m)] 65 (0, 0))
  map : Lm w m L
section
variable {w w' : World} {b m : Nat} {T : Int} {L L' : List Lz}
theorem Tb.lt (h : Tb w b m T L) : b < w.heap.size := lt_of_block h.blk
theorem Tb.keep (h : Tb w b m T L) (e1 : w'.heap[b]? = w.heap[b]?) (e2 : w'.heap[m]? = w.heap[m]?) : Tb w' b m T L := ⟨e1.trans h.blk, h.map.keep e2⟩
theorem Tb.below (h : Tb w b m T L) (hb : Below w.heap.size w w') : Tb w' b m T L := h.keep (hb.block _ h.lt) (hb.block _ h.map.lt)
theorem Tb.alloc (h : Tb w b m T L) (o : Obj) : Tb (w.alloc o) b m T L := h.below (below_alloc w o)
theorem Tb.c0 (h : Tb w b m T L) : w.cell? ⟨b, 0, none⟩ = some (.int .i64 T) := by simp [World.cell?, h.blk]
theorem Tb.c1 (h : Tb w b m T L) : w.cell? ⟨b, 1, none⟩ = some (.map (some m)) := by simp [World.cell?, h.blk]
theorem Tb.ne (h : Tb w b m T L) : b ≠ m := fun e => by
  obtain ⟨es, c, h1⟩ := h.map.block
  have h2 := h.blk
  rw [e, h1] at h2
  cases h2
theorem Tb.turn (h : Tb w b m T L) (hm : Lm w' m L') (hg : w.grownBy w' (some m)) : Tb w' b m T L' :=
  ⟨(hg.block b h.lt (fun e => h.ne (by cases e; rfl))).trans h.blk, hm⟩
/-- another one's call -/
theorem Tb.other {m2 : Nat} (h : Tb w b m T L) (hg : w.grownBy w' (some m2)) (hb2 : ∃ es c, w.heap[m2]? = some (.map es c)) (hne : m ≠ m2) : Tb w' b m T L := by
  refine h.keep (hg.block b h.lt (fun e => ?_)) (hg.block m h.map.lt (fun e => hne (by cases e; rfl)))
  obtain ⟨es, c, h1⟩ := hb2
  cases e
  have h2 := h.blk
  rw [h1] at h2
  cases h2
end

set_option maxHeartbeats 1000000 in
theorem all_any (b : Nat) (w : World) :
    Calls Try.prog 23 #[.pointer (some ⟨b, 0, none⟩)] w fun e w' => e = .returned (.func (.func 32) #[] #[.pointer (some ⟨w.heap.size, 0, none⟩)]) ∧ w' = w.alloc (.cells #[.pointer (some ⟨b, 0, none⟩)] 23) := by
  go_enter Try.func23, Try.ntmps23
  go_wp2
  go_ret
  exact ⟨rfl, rfl⟩

/-- the blocks that a round writes: some that stand, and what a box's slice lies in -/
def OB (S : Nat → Prop) (B : Nat) (W : World) (k : Nat) : Prop := S k ∨ ∃ v, W.cell? ⟨B, 0, none⟩ = some v ∧ v.ownBlock = some k
/-- a lease by itself -/
def L5 (W : World) (k : Nat) : Prop := ∃ cs, W.heap[k]? = some (.cells cs 54 (0, 0)) ∧ cs.size = 5
/-- a round writes these, and leases by themselves (its own variable) -/
structure Kl (S : Nat → Prop) (B : Nat) (W W' : World) : Prop where
  size : W.heap.size ≤ W'.heap.size
  block : ∀ k o, W.heap[k]? = some o → o.isCells = true → ¬ L5 W k → ¬ OB S B W k → W'.heap[k]? = some o
  foot : ∀ k, OB S B W' k → OB S B W k ∨ W.heap.size ≤ k
theorem Kl.refl (S : Nat → Prop) (B : Nat) (W : World) : Kl S B W W := ⟨Nat.le_refl _, fun _ _ h _ _ _ => h, fun _ h => .inl h⟩
theorem L5.of {W W' : World} {k : Nat} (h : L5 W' k) (e : W'.heap[k]? = W.heap[k]?) : L5 W k := by
  obtain ⟨cs, h1, h2⟩ := h
  exact ⟨cs, e ▸ h1, h2⟩
theorem Kl.trans {S : Nat → Prop} {B : Nat} {X Y Z : World} (h : Kl S B X Y) (k : Kl S B Y Z) : Kl S B X Z := by
  refine ⟨Nat.le_trans h.size k.size, fun i o hi ho hl hn => ?_, fun i hi => ?_⟩
  · have h1 := h.block i o hi ho hl hn
    refine k.block i o h1 ho (fun h5 => hl (h5.of (h1.trans hi.symm))) (fun hf => ?_)
    rcases h.foot i hf with h1 | h1
    · exact hn h1
    · have := lt_of_block hi; omega
  · rcases k.foot i hi with h1 | h1
    · exact h.foot i h1
    · exact .inr (Nat.le_trans h.size h1)
theorem OB.cell {S : Nat → Prop} {B : Nat} {W W' : World} (e : W'.cell? ⟨B, 0, none⟩ = W.cell? ⟨B, 0, none⟩) {k : Nat} (h : OB S B W' k) : OB S B W k := by
  rcases h with h | ⟨v, h1, h2⟩
  · exact .inl h
  · exact .inr ⟨v, by rw [← e]; exact h1, h2⟩
/-- nothing old turns but what is no cells -/
theorem Kl.others {S : Nat → Prop} {B : Nat} {W W' : World} {row : Option Nat} (hB : B < W.heap.size) (hBc : ∃ o : Obj, W.heap[B]? = some o ∧ o.isCells = true) (hg : W.grownBy W' row) (hr : ∀ r, row = some r → ∃ o : Obj, W.heap[r]? = some o ∧ o.isCells = false) : Kl S B W W' := by
  have hne : ∀ k (o : Obj), W.heap[k]? = some o → o.isCells = true → some k ≠ row := fun k o hk ho e => by
    obtain ⟨o', h1, h2⟩ := hr k e.symm
    rw [hk] at h1
    cases h1
    rw [ho] at h2
    cases h2
  obtain ⟨o, ho, hc⟩ := hBc
  exact ⟨hg.size, fun k o hk ho _ _ => (hg.block k (lt_of_block hk) (hne k o hk ho)).trans hk, fun k hk => .inl (OB.cell (World.cell?_of_block (hg.block B hB (hne B o ho hc))) hk)⟩

theorem Kl.put {S : Nat → Prop} {B N : Nat} (hB : B < N) {W : World} {l : Nat} {o o' : Obj} (hl : N ≤ l) (ho : W.heap[l]? = some o) (hc : o.isCells = false) : Kl S B W (W.putObj l o') := by
  refine ⟨by simp, fun k p hk hp _ _ => (World.putObj_heap_other (fun e => by subst e; rw [hk] at ho; cases ho; rw [hc] at hp; cases hp)).trans hk, fun k hk => .inl (OB.cell (World.cell?_of_block (World.putObj_heap_other (fun e => ?_))) hk)⟩
  have e : B = l := e
  omega
theorem Kl.alloc {S : Nat → Prop} {B : Nat} {W : World} (hB : B < W.heap.size) (o : Obj) : Kl S B W (W.alloc o) :=
  ⟨by simp, fun k _ hk _ _ _ => (Below.heap_alloc W o k (lt_of_block hk)).trans hk, fun _ hk => .inl (OB.cell ((below_alloc W o).cell (p := ⟨B, 0, none⟩) hB) hk)⟩

set_option maxRecDepth 100000 in
set_option maxHeartbeats 2000000 in
theorem all1_in (n : Nat) (hn : 1 ≤ n) (l Bs b m : Nat) (T : Int) (L : List Lz) (S : Nat → Prop) (B : Nat) (J Jx : List {x : Lz // x ∈ L} → World → Prop) (W : World)
    (hBW : B < W.heap.size) (hOB : ∀ k, OB S B W k → k < W.heap.size) (hJ : AbidesFrom W.heap.size J)
    (hY : ∀ (pre : List {x : Lz // x ∈ L}) (x : {x : Lz // x ∈ L}) (W1 : World), J pre W1 → pre.length < L.length → YieldAt Fence.wide (n - 1) Try.prog l #[x.1.val] W1 fun e W' =>
      (e = .returned (.bool true) ∧ J (pre ++ [x]) W' ∧ Kl S B W1 W') ∨ (e = .returned (.bool false) ∧ Jx (pre ++ [x]) W'))
    (hBs : W.cell? ⟨Bs, 0, none⟩ = some (.pointer (some ⟨b, 0, none⟩))) (hT : Tb W b m T L) (hl : L.length ≤ 12) (h0 : J [] W) :
    CallsIn Fence.wide n Try.prog 32 #[.func (.yield l) #[] #[], .pointer (some ⟨Bs, 0, none⟩)] W fun e W' => (∃ v, e = .returned v) ∧
      ((∃ ys, ys.map Subtype.val = L ∧ J ys W') ∨ (∃ pre, (∃ k, k ≤ L.length ∧ pre.map Subtype.val = L.take k) ∧ Jx pre W')) := by
  have c1 := hT.c1
  have hlb := hT.lt
  refine callsIn_of_wp Try.func32 rfl trivial ?_ rfl
  simp only [Try.ntmps32, List.size_toArray, List.length_cons, List.length_nil, Nat.reduceAdd, Nat.reduceSub, Array.replicate_succ, Array.replicate_zero, List.push_toArray, List.append_toArray, List.nil_append, List.cons_append]
  have HT := hide hT
  have HO := hide hOB
  have HJ := hide hJ
  have HY := hide hY
  clear hT hOB hJ hY
  gi_wp2_with fail
  refine ⟨trivial, (callsIn_wide.2 (values_any m W)).mono ?_⟩
  rintro e w1 ⟨rfl, rfl⟩
  have HM1 := hide (HT.out.map.below (below_alloc W (.cells #[.map (some m)] 63)))
  have hc1 : (W.alloc (.cells #[.map (some m)] 63)).cell? ⟨W.heap.size, 0, none⟩ = some (.map (some m)) := (Boxed.new W _ _).cell
  have HB1 := hide (below_alloc W (.cells #[.map (some m)] 63))
  have HS := hide (sorted_any hc1 HM1.out hl)
  clear c1 hBs hc1
  gi_wp2_with fail
  refine ⟨trivial, (callsIn_wide.2 HS.out).mono ?_⟩
  rintro e w2 ⟨ad, g, cap, rfl, hR, hgn, hB2⟩
  have HR := hide hR
  have HB2 : Hid (Below W.heap.size W w2) := hide (below_of HB1.out hB2)
  have HJ2 := hide (HJ.out [] W w2 none h0 (grown_of_below HB2.out) (fun r e => by cases e))
  have HGN : Hid (0 < L.length → ¬ OB S B w2 g) := fun h0 hf => by
    have h1 := HO.out g (OB.cell (HB2.out.cell (p := ⟨B, 0, none⟩) hBW) hf)
    have h2 := hgn h0
    simp at h2
    omega
  have HSZ : Hid (W.heap.size ≤ w2.heap.size) := HB2.out.size
  clear hR hgn hB2 h0 HB1 HB2 HS HM1
  gi_wp2_with fail
  gi_loopw [12] (fun i wr => ∃ k : Nat, k ≤ L.length ∧ i = .int .i64 (k : Int) ∧ Hid (∃ pre : List {x : Lz // x ∈ L}, pre.map Subtype.val = L.take k ∧ J pre wr) ∧ Hid (k < L.length → Rs wr ad g 0 L) ∧ Hid (0 < L.length → ¬ OB S B wr g) ∧ Hid (W.heap.size ≤ wr.heap.size)) (fun i _ => L.length - (intOf i).toNat)
  case atStart => exact ⟨0, Nat.zero_le _, rfl, ⟨[], rfl, HJ2.out⟩, fun _ => HR.out, HGN, HSZ⟩
  case round =>
    clear HJ2 HR HGN HSZ HT HO
    obtain ⟨k, hk, rfl, HJs, HRs, HNs, HSs⟩ := hrel
    obtain ⟨pre, hpre, hJp⟩ := HJs.out
    have HPre := hide hpre
    have HJp := hide hJp
    clear HJs hpre hJp
    by_cases hlt : k < L.length
    · have HRt := hide (HRs.out hlt)
      clear HRs
      obtain ⟨q0, q1, q2, q3, q4⟩ := HRt.out.eight0 hlt
      have had := HRt.out.at_ (by omega)
      subst had
      have hgl := HRt.out.lt (by omega)
      have hpl : pre.length = k := by
        have := congrArg List.length HPre.out
        simp only [List.length_map, List.length_take] at this
        omega
      have hmem : L[k] ∈ L := List.getElem_mem hlt
      obtain ⟨fn, tmps, assign, body, hy, hR⟩ := HY.out pre ⟨L[k], hmem⟩ (wr.alloc (L[k]).obj) (HJ.out _ _ _ none HJp.out (World.grownBy_alloc wr _ none) (fun r e => by cases e)) (by omega)
      have HR := hide hR
      have HP2 : Hid ((pre ++ [(⟨L[k], hmem⟩ : {x : Lz // x ∈ L})]).map Subtype.val = L.take (k + 1)) := by
        show _ = _
        rw [List.map_append, HPre.out, List.map_singleton, List.take_succ_eq_append_getElem hlt]
      have hgb : ∃ o : Obj, wr.heap[g]? = some o ∧ o.isCells = true := by
        obtain ⟨o, ho, hw⟩ := not_walk_of_cell q0
        refine ⟨o, ho, ?_⟩
        have h1 := q0
        unfold World.cell? at h1
        simp only [ho] at h1
        cases o <;> first | rfl | (simp at h1)
      have HGB := hide hgb
      clear hR HPre hgb
      generalize hd : L[k] = d at *
      clear hd
      gi_wp2_with fail
      refine HR.out.mono ?_
      rintro e W3 (⟨rfl, hJ3, hk3⟩ | ⟨rfl, hJx3⟩)
      · have HJ3 := hide hJ3
        have HR3 : Hid (k + 1 < L.length → Rs W3 (some ⟨g, 0, none⟩) g 0 L) := fun hk2 => HRt.out.keep fun _ => by
          obtain ⟨o, ho, hc⟩ := HGB.out
          rw [ho]
          refine hk3.block g o ((Below.heap_alloc wr _ _ hgl).trans ho) hc (fun h5 => ?_) (fun hf => HNs.out (by omega) (OB.cell ((below_alloc wr _).cell (p := ⟨B, 0, none⟩) (Nat.lt_of_lt_of_le hBW HSs.out)) hf))
          obtain ⟨cs, h1, h2⟩ := h5.of (Below.heap_alloc wr _ _ hgl)
          have h3 := HRt.out.c 1 (by omega) 0 (by decide)
          unfold World.cell? at h3
          rw [h1] at h3
          have h4 : cs[5]? = none := Array.getElem?_eq_none (by omega)
          have h6 : ((L[1]'(by omega)).cs)[0]? = some (.int .i64 (L[1]'(by omega)).job) := rfl
          rw [h6] at h3
          simp [h4] at h3
        have HN3 : Hid (0 < L.length → ¬ OB S B W3 g) := fun h0 hf => by
          rcases hk3.foot g hf with h1 | h1
          · exact HNs.out h0 (OB.cell ((below_alloc wr _).cell (p := ⟨B, 0, none⟩) (Nat.lt_of_lt_of_le hBW HSs.out)) h1)
          · rw [World.size_alloc] at h1; omega
        have HS3 : Hid (W.heap.size ≤ W3.heap.size) := Nat.le_trans HSs.out (Nat.le_trans (by rw [World.size_alloc]; omega) hk3.size)
        clear hJ3 hk3 HRt HNs HSs q0 q1 q2 q3 q4 hy HR
        gi_wp2_with fail
        go_roundw
        case rel => exact ⟨k + 1, by omega, by go_num, ⟨_, HP2.out, HJ3.out⟩, HR3, HN3, HS3⟩
        case measure => simp [intOf]; omega
      · have HX := hide hJx3
        clear hJx3
        gi_wp2_with fail
        refine bodyPost_ret (results_none rfl _ _ _) rfl ?_
        exact ⟨⟨_, rfl⟩, .inr ⟨_, ⟨k + 1, by omega, HP2.out⟩, HX.out⟩⟩
    · obtain rfl : k = L.length := by omega
      have hb : decide ((L.length : Int) < (L.length : Int)) = false := by simp
      have HPP : Hid (pre.map Subtype.val = L) := by have := HPre.out; rw [List.take_length] at this; exact this
      clear hlt
      gi_wp2_with fail
      go_end0
      exact ⟨⟨_, rfl⟩, .inl ⟨_, HPP.out, HJp.out⟩⟩

/-- the iterator's contract -/
theorem all_stops (n : Nat) (hn : 1 ≤ n) (Bs b m : Nat) (T : Int) (L : List Lz) (S : Nat → Prop) (B : Nat) (w : World) (hBw : B < w.heap.size) (hOB : ∀ k, OB S B w k → k < w.heap.size)
    (hBs : w.cell? ⟨Bs, 0, none⟩ = some (.pointer (some ⟨b, 0, none⟩))) (hT : Tb w b m T L) (hl : L.length ≤ 12) :
    SeqStopsK Fence.wide n Try.prog 32 #[.pointer (some ⟨Bs, 0, none⟩)] (fun x : {x : Lz // x ∈ L} => #[x.1.val]) (Kl S B) (fun ys => ys.map Subtype.val = L) (fun pre => ∃ k, k ≤ L.length ∧ pre.map Subtype.val = L.take k) L.length w := fun l J Jx W hW hJ _ hY h0 =>
  all1_in n hn l Bs b m T L S B J Jx W (Nat.lt_of_lt_of_le hBw hW.size) (fun k hk => Nat.lt_of_lt_of_le (hOB k (OB.cell (hW.cell (p := ⟨B, 0, none⟩) hBw) hk)) hW.size) hJ hY ((hW.cell (p := ⟨Bs, 0, none⟩) (World.block_lt_of_cell? _ _ hBs)).trans hBs) (hT.below hW) hl h0
end Go.Proofs.Ytjpcghkdedldiaa
