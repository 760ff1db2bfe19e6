import Derived.Test.YtjpcghkdedldiaaLsTa
namespace Go.Proofs.Ytjpcghkdedldiaa
open Go.RowKit Go.Shelf

attribute [local go_sem] Oper.semAt_some

theorem addr_cells {W : World} {B : Nat} {u v : Value} {t : TypeId} (h : W.heap[B]? = some (.cells #[u, v] t (0, 0))) : W.cell? ⟨B, 0, none⟩ = some u ∧ W.cell? ⟨B, 1, none⟩ = some v := by simp [World.cell?, h]

/-- the state under the first range -/
structure Ra (w : World) (P Q b m x : Nat) (st : Int) (N : Nat) (ad : Option Addr) (ab cap : Nat) (L0 L : List Lz) (k : Nat) (W : World) : Prop where
  te : Te w P Q b m x st L W
  bw : Boxed W N 42 (.slice ad L0.length cap)
  bi : Boxed W (N + 1) 23 (.pointer (some ⟨b, 0, none⟩))
  bk : Boxed W (N + 2) 3 (.int .i64 (k : Int))
  rs : Rs W ad ab 0 L0
  gt : w.heap.size + 1 < N
  pn : P < N
  qn : Q < N
  mn : m < N
section
variable {w W W' : World} {P Q b m x : Nat} {st : Int} {N : Nat} {ad : Option Addr} {ab cap k : Nat} {L0 L L' : List Lz}
theorem Ra.below (h : Ra w P Q b m x st N ad ab cap L0 L k W) (hb : Below W.heap.size W W') : Ra w P Q b m x st N ad ab cap L0 L k W' := ⟨h.te.below hb, box_below h.bw hb, box_below h.bi hb, box_below h.bk hb, h.rs.below hb, h.gt, h.pn, h.qn, h.mn⟩
theorem Ra.two (h : Ra w P Q b m x st N ad ab cap L0 L k W) (hp : Pr 3 W' ⟨b, m, x, L'⟩) (h2 : Two m x W W') : Ra w P Q b m x st N ad ab cap L0 L' k W' := ⟨h.te.two hp h2, box_two h.bw h.te.pr h2, box_two h.bi h.te.pr h2, box_two h.bk h.te.pr h2, h.rs.two h.te.pr h2, h.gt, h.pn, h.qn, h.mn⟩
theorem Ra.others {row : Option Nat} (h : Ra w P Q b m x st N ad ab cap L0 L k W) (hg : W.grownBy W' row) (hr : ∀ q, row = some q → N ≤ q ∧ ∃ o : Obj, W.heap[q]? = some o ∧ o.isCells = false) : Ra w P Q b m x st N ad ab cap L0 L k W' := by
  have hr2 : ∀ q, row = some q → ∃ o : Obj, W.heap[q]? = some o ∧ o.isCells = false := fun q e => (hr q e).2
  exact ⟨h.te.others hg (fun q e => ⟨⟨by have := (hr q e).1; have := h.gt; omega, by have := (hr q e).1; have := h.mn; omega⟩, (hr q e).2⟩), box_others h.bw hg hr2, box_others h.bi hg hr2, box_others h.bk hg hr2, h.rs.keep1 (wide_others hg hr2), h.gt, h.pn, h.qn, h.mn⟩
theorem Ra.set {k' : Nat} (h : Ra w P Q b m x st N ad ab cap L0 L k W) : Ra w P Q b m x st N ad ab cap L0 L k' (W.setCell ⟨N + 2, 0, none⟩ (.int .i64 (k' : Int))) :=
  ⟨h.te.set h.bk (by have := h.gt; omega) (by have := h.pn; omega) (by have := h.qn; omega), h.bw.other (by omega) _, h.bi.other (by omega) _, h.bk.set _, h.rs.keep1 (wide_set h.bk), h.gt, h.pn, h.qn, h.mn⟩
end

theorem not_pre {L : List Lz} {pre : List {x : Lz // x ∈ L}} {x : {x : Lz // x ∈ L}} (hlen : pre.length < L.length) (hne : x.1 ≠ L[pre.length]) : ¬ (pre ++ [x]).map Subtype.val = L.take (pre ++ [x]).length := fun h => hne (by
  have h1 := congrArg (fun l => l[pre.length]?) h
  have e1 : ((pre ++ [x]).map Subtype.val)[pre.length]? = some x.1 := by rw [List.getElem?_map, List.getElem?_append_right (Nat.le_refl _)]; simp
  have e2 : (L.take (pre ++ [x]).length)[pre.length]? = some L[pre.length] := by rw [List.getElem?_take]; simp [hlen]
  have h1 : ((pre ++ [x]).map Subtype.val)[pre.length]? = (L.take (pre ++ [x]).length)[pre.length]? := h1
  rw [e1, e2] at h1
  injection h1)
theorem place9_any {w : World} {n : Int} (h : I6 n) : Calls Try.prog 12 #[.int .i64 n, .int .i64 9] w fun e w' => e = .returned (.int .i64 (pl n 9 : Int)) ∧ w' = w := by
  have h1 := place_any (w := w) (n := n) (m := 9) (by decide) (by decide) h
  rw [show ((9 : Nat) : Int) = 9 from rfl] at h1
  exact h1
theorem keeps_drew (M : Nat) (W : World) : KeepsFrom M W W.drew := ⟨Nat.le_refl _, fun _ _ _ h _ => h⟩
theorem kl_drew (S : Nat → Prop) (B : Nat) (W : World) : Kl S B W W.drew := ⟨Nat.le_refl _, fun _ _ h _ _ _ => h, fun _ h => .inl h⟩
theorem ra_drew {w W : World} {P Q b m x : Nat} {st : Int} {N : Nat} {ad : Option Addr} {ab cap k : Nat} {L0 L : List Lz} (h : Ra w P Q b m x st N ad ab cap L0 L k W) : Ra w P Q b m x st N ad ab cap L0 L k W.drew := h.below ⟨rfl, rfl, rfl, Nat.le_refl _, fun _ _ => rfl⟩

/-- the state under the second range -/
structure Rc (w : World) (P Q b m x : Nat) (st : Int) (N M D J : Nat) (ad : Option Addr) (ab cap : Nat) (L0 L : List Lz) (j : Nat) (W : World) : Prop where
  ra : Ra w P Q b m x st N ad ab cap L0 L L0.length W
  bj : Boxed W J 3 (.int .i64 (j : Int))
  dd : W.heap[D]? = some (.deferred (some []))
  jn : N + 2 < J
  dm : D < M
  nm : N < M
section
variable {w W W' : World} {P Q b m x : Nat} {st : Int} {N M D J : Nat} {ad : Option Addr} {ab cap j : Nat} {L0 L : List Lz}
theorem Rc.below (h : Rc w P Q b m x st N M D J ad ab cap L0 L j W) (hb : Below W.heap.size W W') : Rc w P Q b m x st N M D J ad ab cap L0 L j W' := ⟨h.ra.below hb, box_below h.bj hb, (hb.block D (lt_of_block h.dd)).trans h.dd, h.jn, h.dm, h.nm⟩
theorem Rc.others {row : Option Nat} (h : Rc w P Q b m x st N M D J ad ab cap L0 L j W) (hg : W.grownBy W' row) (hr : ∀ q, row = some q → M ≤ q ∧ ∃ o : Obj, W.heap[q]? = some o ∧ o.isCells = false) : Rc w P Q b m x st N M D J ad ab cap L0 L j W' :=
  ⟨h.ra.others hg (fun q e => ⟨by have := (hr q e).1; have := h.nm; omega, (hr q e).2⟩), box_others h.bj hg (fun q e => (hr q e).2), (hg.block D (lt_of_block h.dd) (fun e => by have := (hr D e.symm).1; have := h.dm; omega)).trans h.dd, h.jn, h.dm, h.nm⟩
theorem Rc.set {j' : Nat} (h : Rc w P Q b m x st N M D J ad ab cap L0 L j W) : Rc w P Q b m x st N M D J ad ab cap L0 L j' (W.setCell ⟨J, 0, none⟩ (.int .i64 (j' : Int))) := by
  have h1 := h.jn
  have h2 := h.ra.gt
  have h3 := h.ra.pn
  have h4 := h.ra.qn
  refine ⟨⟨h.ra.te.set h.bj (by omega) (by omega) (by omega), h.ra.bw.other (by omega) _, h.ra.bi.other (by omega) _, h.ra.bk.other (by omega) _, h.ra.rs.keep1 (wide_set h.bj), h2, h3, h4, h.ra.mn⟩, h.bj.set _, (Below.heap_setCell W ⟨J, 0, none⟩ _ D (fun e => ?_)).trans h.dd, h1, h.dm, h.nm⟩
  have e : D = J := e
  have h5 := h.dd
  rw [e, show W.heap[J]? = _ from h.bj] at h5
  cases h5
end

set_option maxRecDepth 100000 in
set_option maxHeartbeats 20000000 in
theorem leaseTells_walk {w : World} {ad : Option Addr} {cap0 ab ao : Nat} {l : List Int} {st : Int} (hO : Ir w ad ab ao l) (hl : l.length ≤ 17592186044416) (hI : ∀ i (h : i < l.length), I6 l[i]) (hst : -9223372036854775808 ≤ st ∧ st ≤ 9223372036854775807) :
    Calls Try.prog 5 #[.slice ad l.length cap0, .int .i64 st] w fun e w' => e = .returned (.bool true) ∧ Below w.heap.size w w' := by
  refine (callsIn_wide (n := 6)).1 ?_
  refine callsIn_of_wp_marks Try.func5 rfl trivial ?_ rfl
  simp only [Try.ntmps5, List.size_toArray, List.length_cons, List.length_nil, Nat.reduceAdd, Nat.reduceSub, Array.replicate_succ, Array.replicate_zero, List.push_toArray, List.append_toArray, List.nil_append, List.cons_append]
  have HO := hide hO
  have HI := hide hI
  have HST : Hid (I6 st) := hst
  clear hO hI hst
  gi_wp2_with fail
  have b0 := (Boxed.new w 3 (.int .i64 st)).alloc (.cells #[.bool false] 4)
  have b1 := Boxed.new (w.alloc (.cells #[.int .i64 st] 3)) 4 (.bool false)
  rw [World.size_alloc] at b1
  have hlow := ((Below.refl _ w).alloc (Nat.le_refl _) (.cells #[.int .i64 st] 3)).alloc (by simp) (.cells #[.bool false] 4)
  have hsz : ((w.alloc (.cells #[.int .i64 st] 3)).alloc (.cells #[.bool false] 4)).heap.size = w.heap.size + 2 := by simp
  have HB0 := hide b0
  have HB1 := hide b1
  have HLW := hide hlow
  clear b0 b1 hlow
  generalize (w.alloc (.cells #[.int .i64 st] 3)).alloc (.cells #[.bool false] 4) = W0 at *
  refine ⟨trivial, (callsIn_wide.2 (new_ok (T := 3) (by decide) (by decide) W0)).mono ?_⟩
  rintro e w1 ⟨rfl, ht1, hb1⟩
  have HT1 := hide ht1
  have HB2 := hide hb1
  have HSZ := hide hsz
  rw [hsz]
  clear ht1 hb1 hsz
  gi_wp2_with fail
  refine ⟨trivial, (callsIn_wide.2 (xnew_yes (T := 3) (by decide) (by decide) (w1.alloc (.cells #[.pointer (some ⟨w.heap.size + 3, 0, none⟩)] 23)))).mono ?_⟩
  rintro e w2 ⟨rfl, hx2, hb2⟩
  have START : Hid (Te w w1.heap.size w2.heap.size (w.heap.size + 3) (w.heap.size + 2) (w1.heap.size + 1) st [] (w2.alloc (.cells #[.pointer (some ⟨w1.heap.size + 1, 0, none⟩)] 27))) := by
    have hsz := HSZ.out
    have s1 := HB2.out.size
    have hta := HT1.out
    rw [hsz] at hta
    rw [World.size_alloc] at hx2
    have hb3 := hb2.alloc hb2.size (.cells #[.pointer (some ⟨w1.heap.size + 1, 0, none⟩)] 27)
    have hb4 := below_of (below_alloc w1 (.cells #[.pointer (some ⟨w.heap.size + 3, 0, none⟩)] 23)) hb3
    have hb5 := below_of HB2.out hb4
    exact ⟨box_below HB0.out hb5, box_below HB1.out hb5, box_below (Boxed.new w1 23 _) hb3, Boxed.new w2 27 _, ⟨hta.below hb4, ⟨_, _, _, hx2.below (below_alloc w2 _)⟩⟩, below_of HLW.out hb5, by show w.heap.size ≤ w.heap.size + 2; omega, by show w.heap.size ≤ w1.heap.size + 1; omega⟩
  have d1 : (w2.alloc (.cells #[.pointer (some ⟨w1.heap.size + 1, 0, none⟩)] 27)).cell? ⟨w1.heap.size, 0, none⟩ = some (.pointer (some ⟨w.heap.size + 3, 0, none⟩)) := START.out.bt.cell
  have hs1 : (w1.alloc (.cells #[.pointer (some ⟨w.heap.size + 3, 0, none⟩)] 23)).heap.size = w1.heap.size + 1 := World.size_alloc _ _
  rw [hs1]
  clear hx2 hb2 HT1 HB0 HB1 HB2 HLW HSZ hs1
  gi_wp2_with fail
  clear d1
  generalize w2.alloc (.cells #[.pointer (some ⟨w1.heap.size + 1, 0, none⟩)] 27) = W2 at *
  generalize w1.heap.size + 1 = X at *
  generalize w1.heap.size = P at *
  generalize w2.heap.size = Q at *
  gi_loopw [9] (fun u wr => ∃ (i : Nat) (L : List Lz), u = .int .i64 (i : Int) ∧ i ≤ l.length ∧ Hid (Te w P Q (w.heap.size + 3) (w.heap.size + 2) X st L wr)) (fun u _ => (l.length - (intOf u).toNat))
  case atStart => exact ⟨0, [], rfl, Nat.zero_le _, START⟩
  case round =>
    clear START
    obtain ⟨i, L, rfl, hi, HT⟩ := hrel
    by_cases hil : i < l.length
    · have hii : (i : Int) < (l.length : Int) := by omega
      have hat := HO.out.at_ (by omega)
      subst hat
      have hg := HI.out i hil
      have KO := hide (fun V (hV : Below w.heap.size w V) => (HO.out.below hV).c i hil)
      generalize l[i] = g at *
      have g0 := KO.out _ HT.out.low
      obtain ⟨r, ht⟩ : ∃ r, (i : Int).tmod 9 = r := ⟨_, rfl⟩
      obtain ⟨j, hwr⟩ : ∃ j, IntKind.i64.wrap (1 + r) = j := ⟨_, rfl⟩
      gi_wp2_with fail
      have hbA := below_alloc wr (.cells #[.int .i64 (i : Int), .int .i64 g] 36)
      have HA := hide (HT.out.below hbA)
      have HH : Hid ((wr.alloc (.cells #[.int .i64 (i : Int), .int .i64 g] 36)).heap[wr.heap.size]? = some (.cells #[.int .i64 (i : Int), .int .i64 g] 36)) := heap_alloc_new _ _
      clear g0 HT hbA
      generalize wr.alloc (.cells #[.int .i64 (i : Int), .int .i64 g] 36) = W3 at *
      generalize wr.heap.size = hB at *
      have HAD : Hid (Te w P Q (w.heap.size + 3) (w.heap.size + 2) X st L W3.drew) := HA.out.below ⟨rfl, rfl, rfl, Nat.le_refl _, fun _ _ => rfl⟩
      have HHD : Hid (W3.drew.heap[hB]? = some (.cells #[.int .i64 (i : Int), .int .i64 g] 36)) := HH.out
      clear HA HH
      refine wide_held (S := (fun w' => (w'.cell? ⟨P, 0, none⟩ = some (.pointer (some ⟨w.heap.size + 3, 0, none⟩)) ∧ w'.cell? ⟨Q, 0, none⟩ = some (.pointer (some ⟨X, 0, none⟩))) ∧ w'.heap[hB]? = some (.cells #[.int .i64 (i : Int), .int .i64 g] 36) ∧ Below w.heap.size w w')) (by kernel_rfl) (by kernel_rfl) (⟨⟨HAD.out.bt.cell, HAD.out.bx.cell⟩, HHD.out, HAD.out.low⟩) (fun hHeld => ?_)
      refine wpAnyH_take (i := 0) (v := (.pointer (some ⟨w.heap.size + 3, 0, none⟩))) rfl (by kernel_rfl) (by kernel_rfl) (by kernel_rfl) (fun _ _ _ h => good_panic h) (Or.inl ⟨by kernel_rfl, fun w1 hSw => by clear hHeld; obtain ⟨⟨c0, c1⟩, hh, hlw⟩ := hSw; obtain ⟨h0, h1⟩ := addr_cells hh; (have g0 := KO.out _ hlw); clear hh hlw; go_simp⟩) hHeld ?_
      try simp only [Act.put]
      try simp only [List.getElem_toArray]
      try simp only [List.getElem_cons_succ]
      try simp only [List.getElem_cons_zero]
      try simp only [List.setIfInBounds_toArray]
      try simp only [List.set_cons_succ, List.set_cons_zero]
      refine wpAnyH_take (i := 1) (v := (.int .i64 (i : Int))) rfl (by kernel_rfl) (by kernel_rfl) (by kernel_rfl) (fun _ _ _ h => good_panic h) (Or.inl ⟨by kernel_rfl, fun w1 hSw => by clear hHeld; obtain ⟨⟨c0, c1⟩, hh, hlw⟩ := hSw; obtain ⟨h0, h1⟩ := addr_cells hh; (have g0 := KO.out _ hlw); clear hh hlw; go_simp⟩) hHeld ?_
      try simp only [Act.put]
      try simp only [List.getElem_toArray]
      try simp only [List.getElem_cons_succ]
      try simp only [List.getElem_cons_zero]
      try simp only [List.setIfInBounds_toArray]
      try simp only [List.set_cons_succ, List.set_cons_zero]
      refine wpAnyH_take (i := 2) (v := (.int .i64 r)) rfl (by kernel_rfl) (by kernel_rfl) (by kernel_rfl) (fun _ _ _ h => good_panic h) (Or.inl ⟨by kernel_rfl, fun w1 hSw => by clear hHeld; obtain ⟨⟨c0, c1⟩, hh, hlw⟩ := hSw; obtain ⟨h0, h1⟩ := addr_cells hh; (have g0 := KO.out _ hlw); clear hh hlw; go_simp⟩) hHeld ?_
      try simp only [Act.put]
      try simp only [List.getElem_toArray]
      try simp only [List.getElem_cons_succ]
      try simp only [List.getElem_cons_zero]
      try simp only [List.setIfInBounds_toArray]
      try simp only [List.set_cons_succ, List.set_cons_zero]
      refine wpAnyH_take (i := 3) (v := (.int .i64 j)) rfl (by kernel_rfl) (by kernel_rfl) (by kernel_rfl) (fun _ _ _ h => good_panic h) (Or.inl ⟨by kernel_rfl, fun w1 hSw => by clear hHeld; obtain ⟨⟨c0, c1⟩, hh, hlw⟩ := hSw; obtain ⟨h0, h1⟩ := addr_cells hh; (have g0 := KO.out _ hlw); clear hh hlw; go_simp⟩) hHeld ?_
      try simp only [Act.put]
      try simp only [List.getElem_toArray]
      try simp only [List.getElem_cons_succ]
      try simp only [List.getElem_cons_zero]
      try simp only [List.setIfInBounds_toArray]
      try simp only [List.set_cons_succ, List.set_cons_zero]
      refine wpAnyH_take (i := 4) (v := (.slice (some ⟨ab, ao, none⟩) l.length cap0)) rfl (by kernel_rfl) (by kernel_rfl) (by kernel_rfl) (fun _ _ _ h => good_panic h) (Or.inl ⟨by kernel_rfl, fun w1 hSw => by clear hHeld; obtain ⟨⟨c0, c1⟩, hh, hlw⟩ := hSw; obtain ⟨h0, h1⟩ := addr_cells hh; (have g0 := KO.out _ hlw); clear hh hlw; go_simp⟩) hHeld ?_
      try simp only [Act.put]
      try simp only [List.getElem_toArray]
      try simp only [List.getElem_cons_succ]
      try simp only [List.getElem_cons_zero]
      try simp only [List.setIfInBounds_toArray]
      try simp only [List.set_cons_succ, List.set_cons_zero]
      refine wpAnyH_take (i := 5) (v := (.int .i64 (i : Int))) rfl (by kernel_rfl) (by kernel_rfl) (by kernel_rfl) (fun _ _ _ h => good_panic h) (Or.inl ⟨by kernel_rfl, fun w1 hSw => by clear hHeld; obtain ⟨⟨c0, c1⟩, hh, hlw⟩ := hSw; obtain ⟨h0, h1⟩ := addr_cells hh; (have g0 := KO.out _ hlw); clear hh hlw; go_simp⟩) hHeld ?_
      try simp only [Act.put]
      try simp only [List.getElem_toArray]
      try simp only [List.getElem_cons_succ]
      try simp only [List.getElem_cons_zero]
      try simp only [List.setIfInBounds_toArray]
      try simp only [List.set_cons_succ, List.set_cons_zero]
      refine wpAnyH_take (i := 6) (v := (.pointer (some ⟨ab, ao + i, none⟩))) rfl (by kernel_rfl) (by kernel_rfl) (by kernel_rfl) (fun _ _ _ h => good_panic h) (Or.inl ⟨by kernel_rfl, fun w1 hSw => by clear hHeld; obtain ⟨⟨c0, c1⟩, hh, hlw⟩ := hSw; obtain ⟨h0, h1⟩ := addr_cells hh; (have g0 := KO.out _ hlw); clear hh hlw; go_simp⟩) hHeld ?_
      try simp only [Act.put]
      try simp only [List.getElem_toArray]
      try simp only [List.getElem_cons_succ]
      try simp only [List.getElem_cons_zero]
      try simp only [List.setIfInBounds_toArray]
      try simp only [List.set_cons_succ, List.set_cons_zero]
      refine wpAnyH_take (i := 7) (v := (.int .i64 g)) rfl (by kernel_rfl) (by kernel_rfl) (by kernel_rfl) (fun _ _ _ h => good_panic h) (Or.inl ⟨by kernel_rfl, fun w1 hSw => by clear hHeld; obtain ⟨⟨c0, c1⟩, hh, hlw⟩ := hSw; obtain ⟨h0, h1⟩ := addr_cells hh; (have g0 := KO.out _ hlw); clear hh hlw; go_simp⟩) hHeld ?_
      try simp only [Act.put]
      try simp only [List.getElem_toArray]
      try simp only [List.getElem_cons_succ]
      try simp only [List.getElem_cons_zero]
      try simp only [List.setIfInBounds_toArray]
      try simp only [List.set_cons_succ, List.set_cons_zero]
      refine wpAnyH_take (i := 8) (v := (.agg #[.int .i64 (i : Int), .int .i64 g])) rfl (by kernel_rfl) (by kernel_rfl) (by kernel_rfl) (fun _ _ _ h => good_panic h) (Or.inl ⟨by kernel_rfl, fun w1 hSw => by clear hHeld; obtain ⟨⟨c0, c1⟩, hh, hlw⟩ := hSw; obtain ⟨h0, h1⟩ := addr_cells hh; (have g0 := KO.out _ hlw); clear hh hlw; go_simp⟩) hHeld ?_
      try simp only [Act.put]
      try simp only [List.getElem_toArray]
      try simp only [List.getElem_cons_succ]
      try simp only [List.getElem_cons_zero]
      try simp only [List.setIfInBounds_toArray]
      try simp only [List.set_cons_succ, List.set_cons_zero]
      refine wpAnyH_take (i := 10) (v := (.pointer (some ⟨X, 0, none⟩))) rfl (by kernel_rfl) (by kernel_rfl) (by kernel_rfl) (fun _ _ _ h => good_panic h) (Or.inl ⟨by kernel_rfl, fun w1 hSw => by clear hHeld; obtain ⟨⟨c0, c1⟩, hh, hlw⟩ := hSw; obtain ⟨h0, h1⟩ := addr_cells hh; (have g0 := KO.out _ hlw); clear hh hlw; go_simp⟩) hHeld ?_
      try simp only [Act.put]
      try simp only [List.getElem_toArray]
      try simp only [List.getElem_cons_succ]
      try simp only [List.getElem_cons_zero]
      try simp only [List.setIfInBounds_toArray]
      try simp only [List.set_cons_succ, List.set_cons_zero]
      refine wpAnyH_take (i := 11) (v := (.int .i64 (i : Int))) rfl (by kernel_rfl) (by kernel_rfl) (by kernel_rfl) (fun _ _ _ h => good_panic h) (Or.inl ⟨by kernel_rfl, fun w1 hSw => by clear hHeld; obtain ⟨⟨c0, c1⟩, hh, hlw⟩ := hSw; obtain ⟨h0, h1⟩ := addr_cells hh; (have g0 := KO.out _ hlw); clear hh hlw; go_simp⟩) hHeld ?_
      try simp only [Act.put]
      try simp only [List.getElem_toArray]
      try simp only [List.getElem_cons_succ]
      try simp only [List.getElem_cons_zero]
      try simp only [List.setIfInBounds_toArray]
      try simp only [List.set_cons_succ, List.set_cons_zero]
      refine wpAnyH_take (i := 12) (v := (.int .i64 r)) rfl (by kernel_rfl) (by kernel_rfl) (by kernel_rfl) (fun _ _ _ h => good_panic h) (Or.inl ⟨by kernel_rfl, fun w1 hSw => by clear hHeld; obtain ⟨⟨c0, c1⟩, hh, hlw⟩ := hSw; obtain ⟨h0, h1⟩ := addr_cells hh; (have g0 := KO.out _ hlw); clear hh hlw; go_simp⟩) hHeld ?_
      try simp only [Act.put]
      try simp only [List.getElem_toArray]
      try simp only [List.getElem_cons_succ]
      try simp only [List.getElem_cons_zero]
      try simp only [List.setIfInBounds_toArray]
      try simp only [List.set_cons_succ, List.set_cons_zero]
      refine wpAnyH_take (i := 13) (v := (.int .i64 j)) rfl (by kernel_rfl) (by kernel_rfl) (by kernel_rfl) (fun _ _ _ h => good_panic h) (Or.inl ⟨by kernel_rfl, fun w1 hSw => by clear hHeld; obtain ⟨⟨c0, c1⟩, hh, hlw⟩ := hSw; obtain ⟨h0, h1⟩ := addr_cells hh; (have g0 := KO.out _ hlw); clear hh hlw; go_simp⟩) hHeld ?_
      try simp only [Act.put]
      try simp only [List.getElem_toArray]
      try simp only [List.getElem_cons_succ]
      try simp only [List.getElem_cons_zero]
      try simp only [List.setIfInBounds_toArray]
      try simp only [List.set_cons_succ, List.set_cons_zero]
      refine wpAnyH_take (i := 14) (v := (.slice (some ⟨ab, ao, none⟩) l.length cap0)) rfl (by kernel_rfl) (by kernel_rfl) (by kernel_rfl) (fun _ _ _ h => good_panic h) (Or.inl ⟨by kernel_rfl, fun w1 hSw => by clear hHeld; obtain ⟨⟨c0, c1⟩, hh, hlw⟩ := hSw; obtain ⟨h0, h1⟩ := addr_cells hh; (have g0 := KO.out _ hlw); clear hh hlw; go_simp⟩) hHeld ?_
      try simp only [Act.put]
      try simp only [List.getElem_toArray]
      try simp only [List.getElem_cons_succ]
      try simp only [List.getElem_cons_zero]
      try simp only [List.setIfInBounds_toArray]
      try simp only [List.set_cons_succ, List.set_cons_zero]
      refine wpAnyH_take (i := 15) (v := (.int .i64 (i : Int))) rfl (by kernel_rfl) (by kernel_rfl) (by kernel_rfl) (fun _ _ _ h => good_panic h) (Or.inl ⟨by kernel_rfl, fun w1 hSw => by clear hHeld; obtain ⟨⟨c0, c1⟩, hh, hlw⟩ := hSw; obtain ⟨h0, h1⟩ := addr_cells hh; (have g0 := KO.out _ hlw); clear hh hlw; go_simp⟩) hHeld ?_
      try simp only [Act.put]
      try simp only [List.getElem_toArray]
      try simp only [List.getElem_cons_succ]
      try simp only [List.getElem_cons_zero]
      try simp only [List.setIfInBounds_toArray]
      try simp only [List.set_cons_succ, List.set_cons_zero]
      refine wpAnyH_take (i := 16) (v := (.pointer (some ⟨ab, ao + i, none⟩))) rfl (by kernel_rfl) (by kernel_rfl) (by kernel_rfl) (fun _ _ _ h => good_panic h) (Or.inl ⟨by kernel_rfl, fun w1 hSw => by clear hHeld; obtain ⟨⟨c0, c1⟩, hh, hlw⟩ := hSw; obtain ⟨h0, h1⟩ := addr_cells hh; (have g0 := KO.out _ hlw); clear hh hlw; go_simp⟩) hHeld ?_
      try simp only [Act.put]
      try simp only [List.getElem_toArray]
      try simp only [List.getElem_cons_succ]
      try simp only [List.getElem_cons_zero]
      try simp only [List.setIfInBounds_toArray]
      try simp only [List.set_cons_succ, List.set_cons_zero]
      refine wpAnyH_take (i := 17) (v := (.int .i64 g)) rfl (by kernel_rfl) (by kernel_rfl) (by kernel_rfl) (fun _ _ _ h => good_panic h) (Or.inl ⟨by kernel_rfl, fun w1 hSw => by clear hHeld; obtain ⟨⟨c0, c1⟩, hh, hlw⟩ := hSw; obtain ⟨h0, h1⟩ := addr_cells hh; (have g0 := KO.out _ hlw); clear hh hlw; go_simp⟩) hHeld ?_
      try simp only [Act.put]
      try simp only [List.getElem_toArray]
      try simp only [List.getElem_cons_succ]
      try simp only [List.getElem_cons_zero]
      try simp only [List.setIfInBounds_toArray]
      try simp only [List.set_cons_succ, List.set_cons_zero]
      refine wpAnyH_take (i := 18) (v := (.agg #[.int .i64 (i : Int), .int .i64 g])) rfl (by kernel_rfl) (by kernel_rfl) (by kernel_rfl) (fun _ _ _ h => good_panic h) (Or.inl ⟨by kernel_rfl, fun w1 hSw => by clear hHeld; obtain ⟨⟨c0, c1⟩, hh, hlw⟩ := hSw; obtain ⟨h0, h1⟩ := addr_cells hh; (have g0 := KO.out _ hlw); clear hh hlw; go_simp⟩) hHeld ?_
      try simp only [Act.put]
      try simp only [List.getElem_toArray]
      try simp only [List.getElem_cons_succ]
      try simp only [List.getElem_cons_zero]
      try simp only [List.setIfInBounds_toArray]
      try simp only [List.set_cons_succ, List.set_cons_zero]
      refine wpAnyH_ready (rs := [9]) (by kernel_rfl) (by simp) ?_
      refine AllReadyH.cons rfl (fun K hK => ?_) AllReadyH.nil
      go_simp
      refine (grant_ok HAD.out.pr.ta j g (i : Int) g).mono ?_
      rintro e w4 ⟨rfl, ht4, hg4⟩
      have HT4 := hide ht4
      have HG4 := hide hg4
      have HM4 := hide (HAD.out.mid hg4)
      have HH4 : Hid (w4.heap[hB]? = some (.cells #[.int .i64 (i : Int), .int .i64 g] 36)) := (hg4.block hB (lt_of_block HHD.out) (fun e => by obtain ⟨es, c, hm⟩ := HAD.out.pr.mm; injection e with e; have e : hB = w.heap.size + 2 := e; have hm : W3.drew.heap[w.heap.size + 2]? = some (.map es c) := hm; rw [← e, HHD.out] at hm; cases hm)).trans HHD.out
      have HC4 : Hid (w4.cell? ⟨P, 0, none⟩ = some (.pointer (some ⟨w.heap.size + 3, 0, none⟩))) := (HAD.out.bt.kept hg4 (fun e => box_nem HAD.out.bt HAD.out.pr.mm (by injection e))).cell
      have HL4 : Hid (Below w.heap.size w w4) := HAD.out.low.grown hg4 HAD.out.low.size (fun k e => by injection e with e; have e : w.heap.size + 2 = k := e; omega)
      clear ht4 hg4
      refine hK.out _ _ (⟨⟨HC4.out, HM4.out.1⟩, HH4.out, HL4.out⟩) (fun hHeld => ?_)
      clear hK K
      try dsimp only
      try simp only [List.getElem_toArray]
      try simp only [List.getElem_cons_succ]
      try simp only [List.getElem_cons_zero]
      try simp only [List.setIfInBounds_toArray]
      try simp only [List.set_cons_succ, List.set_cons_zero]
      refine wpAnyH_ready (rs := [19]) (by kernel_rfl) (by simp) ?_
      refine AllReadyH.cons rfl (fun K hK => ?_) AllReadyH.nil
      go_simp
      refine (xgrant_ok HM4.out.2 HAD.out.pr.ta.ok.len12 j g (i : Int) g).mono ?_
      rintro e w5 ⟨rfl, hx5, hg5⟩
      have HF := hide (HAD.out.pr.both HT4.out HG4.out hx5 hg5)
      have HT5 := hide (HAD.out.two HF.out.1 HF.out.2)
      have HH5 : Hid (w5.heap[hB]? = some (.cells #[.int .i64 (i : Int), .int .i64 g] 36)) := (hg5.block hB (lt_of_block HH4.out) (fun e => by obtain ⟨a, n, c, hx⟩ := HM4.out.2.blk; injection e with e; rw [← e, HH4.out] at hx; injection hx with hx; injection hx with _ hx; exact absurd hx (by decide))).trans HH4.out
      clear hx5 hg5 HF
      refine hK.out _ _ (⟨⟨HT5.out.bt.cell, HT5.out.bx.cell⟩, HH5.out, HT5.out.low⟩) (fun hHeld => ?_)
      clear hK K
      try dsimp only
      try simp only [List.getElem_toArray]
      try simp only [List.getElem_cons_succ]
      try simp only [List.getElem_cons_zero]
      try simp only [List.setIfInBounds_toArray]
      try simp only [List.set_cons_succ, List.set_cons_zero]
      refine wpAnyH_take (i := 20) (v := (.bool false)) rfl (by kernel_rfl) (by kernel_rfl) (by kernel_rfl) (fun _ _ _ h => good_panic h) (Or.inl ⟨by kernel_rfl, fun w1 hSw => by clear hHeld; obtain ⟨⟨c0, c1⟩, hh, hlw⟩ := hSw; obtain ⟨h0, h1⟩ := addr_cells hh; (have g0 := KO.out _ hlw); clear hh hlw; go_simp⟩) hHeld ?_
      try simp only [Act.put]
      try simp only [List.getElem_toArray]
      try simp only [List.getElem_cons_succ]
      try simp only [List.getElem_cons_zero]
      try simp only [List.setIfInBounds_toArray]
      try simp only [List.set_cons_succ, List.set_cons_zero]
      refine wpAnyH_done (by kernel_rfl) ?_ _
      clear hHeld
      refine ⟨rfl, ?_⟩
      try simp only [List.getElem_toArray]
      try simp only [List.getElem_cons_succ]
      try simp only [List.getElem_cons_zero]
      generalize grL 3 L j g (i : Int) g = L5 at *
      gi_wp2_with fail
      go_roundw
      case rel => exact ⟨i + 1, L5, by go_num, by omega, HT5⟩
      case measure => simp only [intOf]; omega
    · have hii : ¬ (i : Int) < (l.length : Int) := by omega
      clear hi hil HI HO
      obtain ⟨adX, abX, capX, hX⟩ := HT.out.pr.xa
      have c0 := HT.out.bt.cell
      have c1 := HT.out.bx.cell
      have c2 := hX.c1
      have HRS := hide hX.rs
      have c3 := (HT.out.below (below_alloc wr (.cells #[.slice adX L.length capX] 42))).bt.cell
      clear hX
      gi_wp2_with fail
      refine ⟨trivial, (callsIn_wide.2 (all_any (w.heap.size + 3) (wr.alloc (.cells #[.slice adX L.length capX] 42)))).mono ?_⟩
      rintro e w4 ⟨rfl, rfl⟩
      have hfn2 := fun x W => funcNil 32 #[x] W
      clear c0 c1 c2 c3
      gi_wp2_with fail
      have HR0 : Hid (Ra w P Q (w.heap.size + 3) (w.heap.size + 2) X st wr.heap.size adX abX capX L L 0 (((wr.alloc (.cells #[.slice adX L.length capX] 42)).alloc (.cells #[.pointer (some ⟨w.heap.size + 3, 0, none⟩)] 23)).alloc (.cells #[.int .i64 0] 3))) := by
        have hb1 := below_alloc wr (.cells #[.slice adX L.length capX] 42)
        have hb2 := below_alloc (wr.alloc (.cells #[.slice adX L.length capX] 42)) (.cells #[.pointer (some ⟨w.heap.size + 3, 0, none⟩)] 23)
        have hb3 := below_alloc ((wr.alloc (.cells #[.slice adX L.length capX] 42)).alloc (.cells #[.pointer (some ⟨w.heap.size + 3, 0, none⟩)] 23)) (.cells #[.int .i64 0] 3)
        have q1 := Boxed.new (wr.alloc (.cells #[.slice adX L.length capX] 42)) 23 (.pointer (some ⟨w.heap.size + 3, 0, none⟩))
        have q2 := Boxed.new ((wr.alloc (.cells #[.slice adX L.length capX] 42)).alloc (.cells #[.pointer (some ⟨w.heap.size + 3, 0, none⟩)] 23)) 3 (.int .i64 0)
        rw [World.size_alloc] at q1
        rw [World.size_alloc, World.size_alloc] at q2
        exact ⟨((HT.out.below hb1).below hb2).below hb3, box_below (box_below (Boxed.new wr 42 _) hb2) hb3, box_below q1 hb3, q2, ((HRS.out.below hb1).below hb2).below hb3, HT.out.br.lt, HT.out.bt.lt, HT.out.bx.lt, HT.out.pr.ta.tb.map.lt⟩
      have HSZ : Hid ((((wr.alloc (.cells #[.slice adX L.length capX] 42)).alloc (.cells #[.pointer (some ⟨w.heap.size + 3, 0, none⟩)] 23)).alloc (.cells #[.int .i64 0] 3)).heap.size = wr.heap.size + 3) := by show _ = _; simp
      clear HT HRS hfn2 hii
      generalize ((wr.alloc (.cells #[.slice adX L.length capX] 42)).alloc (.cells #[.pointer (some ⟨w.heap.size + 3, 0, none⟩)] 23)).alloc (.cells #[.int .i64 0] 3) = W5 at *
      generalize wr.heap.size = N at *
      have hlL := HR0.out.te.pr.ta.ok.len12
      refine range_boxed 14 (fun x : {x : Lz // x ∈ L} => x.1.obj) (fun _ => rfl) rfl (by decide) (gf := 32) (lb := #[.pointer (some ⟨N + 1, 0, none⟩)]) rfl trivial (enters_of Try.func32 (by kernel_rfl) rfl)
        (all_stops 5 (by decide) (N + 1) (w.heap.size + 3) (w.heap.size + 2) 3 L (fun k => k = N + 2 ∨ k = X) (N + 2) W5 HR0.out.bk.lt (fun k hk => by
          rcases hk with (rfl | rfl) | ⟨v, h1, h2⟩
          · exact HR0.out.bk.lt
          · exact HR0.out.te.pr.xa.lt
          · rw [HR0.out.bk.cell] at h1; cases h1; cases h2) HR0.out.bi.cell HR0.out.te.pr.ta.tb hlL)
        Kl.trans (fun W k o o' hk ho hc _ => Kl.put (N := W5.heap.size) HR0.out.bk.lt hk ho hc) (Below.refl _ _) (fun _ => rfl)
        (fun pre W => ∃ L', Ra w P Q (w.heap.size + 3) (w.heap.size + 2) X st N adX abX capX L L' pre.length W)
        (fun _ pre _ => ¬ pre.map Subtype.val = L.take pre.length)
        ?hI (fun _ _ _ _ _ hs _ _ => hs) ⟨L, HR0.out⟩ ?assign ?body ?done ?stop
      case hI =>
        rintro pre W W' row ⟨L', h1⟩ hg hr
        exact ⟨L', h1.others hg (fun q e => ⟨by have := (hr q e).1; have := HSZ.out; omega, (hr q e).2⟩)⟩
      case assign =>
        rintro k pre x W K ⟨L', hR⟩ hK
        have hbl := hR.bk.lt
        gi_wp2
        exact hK _ _ ((KeepsOthers.alloc _ _).from _) (Kl.alloc hbl _) ⟨L', hR.below (below_alloc W _)⟩ ⟨W.heap.size, heap_alloc_new W _, by simp⟩
      case stop =>
        rintro D c pre W hD ⟨k, hk, hpk⟩ hn _
        refine absurd ?_ hn
        have h1 := congrArg List.length hpk
        rw [List.length_map, List.length_take] at h1
        rw [hpk, h1, Nat.min_eq_left hk]
      case body =>
        rintro kk pre x Bx W ⟨L', hR⟩ hx hlen
        have hatL := hR.rs.at_ (by omega)
        subst hatL
        have HR := hide (ra_drew hR)
        have HX : Hid (W.drew.heap[Bx]? = some x.1.obj) := hx
        have d0 := HR.out.bk.cell
        have d1 := HR.out.bw.cell
        obtain ⟨x0, x1, x2, x3, x4⟩ := five_of HX.out
        obtain ⟨y0, y1, y2, y3, y4⟩ := HR.out.rs.eight0 hlen
        have hli : (pre.length : Int) < (L.length : Int) := by omega
        have hgd := guardL
        have bg1 : decide ((L.length : Int) ≤ (pre.length : Int)) = false := by simp; omega
        have bg2 : decide (L.length ≤ pre.length) = false := by simp; omega
        have HK : Hid (KeepsFrom W5.heap.size W W.drew ∧ Kl (fun k => k = N + 2 ∨ k = X) (N + 2) W W.drew) := ⟨keeps_drew _ _, kl_drew _ _ _⟩
        clear hR hx
        by_cases he : x.1 = L[pre.length]
        · rw [← he] at y0 y1 y2 y3 y4
          have hn := neqL_run x.1 x.1
          rw [decide_eq_true rfl, Bool.not_true] at hn
          clear he
          gi_wp2_with fail
          refine round_held (S := (fun w' => w' = W.drew ∧ True)) (by kernel_rfl) (by kernel_rfl) (⟨rfl, trivial⟩) (fun hHeld => ?_)
          refine wpAnyH_take (i := 0) (v := (.int .i64 (pre.length : Int))) rfl (by kernel_rfl) (by kernel_rfl) (by kernel_rfl) (fun _ _ _ h => good_panic h) (Or.inl ⟨by kernel_rfl, fun w1 hSw => by clear hHeld; obtain ⟨rfl, _⟩ := hSw; go_simp⟩) hHeld ?_
          try simp only [Act.put]
          try simp only [List.getElem_toArray]
          try simp only [List.getElem_cons_succ]
          try simp only [List.getElem_cons_zero]
          try simp only [List.setIfInBounds_toArray]
          try simp only [List.set_cons_succ, List.set_cons_zero]
          refine wpAnyH_take (i := 1) (v := (.slice (some ⟨abX, 0, none⟩) L.length capX)) rfl (by kernel_rfl) (by kernel_rfl) (by kernel_rfl) (fun _ _ _ h => good_panic h) (Or.inl ⟨by kernel_rfl, fun w1 hSw => by clear hHeld; obtain ⟨rfl, _⟩ := hSw; go_simp⟩) hHeld ?_
          try simp only [Act.put]
          try simp only [List.getElem_toArray]
          try simp only [List.getElem_cons_succ]
          try simp only [List.getElem_cons_zero]
          try simp only [List.setIfInBounds_toArray]
          try simp only [List.set_cons_succ, List.set_cons_zero]
          refine wpAnyH_take (i := 2) (v := (.int .i64 (L.length : Int))) rfl (by kernel_rfl) (by kernel_rfl) (by kernel_rfl) (fun _ _ _ h => good_panic h) (Or.inl ⟨by kernel_rfl, fun w1 hSw => by clear hHeld; obtain ⟨rfl, _⟩ := hSw; go_simp⟩) hHeld ?_
          try simp only [Act.put]
          try simp only [List.getElem_toArray]
          try simp only [List.getElem_cons_succ]
          try simp only [List.getElem_cons_zero]
          try simp only [List.setIfInBounds_toArray]
          try simp only [List.set_cons_succ, List.set_cons_zero]
          refine wpAnyH_take (i := 3) (v := (.bool false)) rfl (by kernel_rfl) (by kernel_rfl) (by kernel_rfl) (fun _ _ _ h => good_panic h) (Or.inl ⟨by kernel_rfl, fun w1 hSw => by clear hHeld; obtain ⟨rfl, _⟩ := hSw; go_simp⟩) hHeld ?_
          try simp only [Act.put]
          try simp only [List.getElem_toArray]
          try simp only [List.getElem_cons_succ]
          try simp only [List.getElem_cons_zero]
          try simp only [List.setIfInBounds_toArray]
          try simp only [List.set_cons_succ, List.set_cons_zero]
          refine wpAnyH_take (i := 4) (v := (.bool false)) rfl (by kernel_rfl) (by kernel_rfl) (by kernel_rfl) (fun _ _ _ h => good_panic h) (Or.inl ⟨by kernel_rfl, fun w1 hSw => by clear hHeld; obtain ⟨rfl, _⟩ := hSw; go_simp⟩) hHeld ?_
          try simp only [Act.put]
          try simp only [List.getElem_toArray]
          try simp only [List.getElem_cons_succ]
          try simp only [List.getElem_cons_zero]
          try simp only [List.setIfInBounds_toArray]
          try simp only [List.set_cons_succ, List.set_cons_zero]
          refine wpAnyH_take (i := 5) (v := x.1.val) rfl (by kernel_rfl) (by kernel_rfl) (by kernel_rfl) (fun _ _ _ h => good_panic h) (Or.inl ⟨by kernel_rfl, fun w1 hSw => by clear hHeld; obtain ⟨rfl, _⟩ := hSw; go_simp⟩) hHeld ?_
          try simp only [Act.put]
          try simp only [List.getElem_toArray]
          try simp only [List.getElem_cons_succ]
          try simp only [List.getElem_cons_zero]
          try simp only [List.setIfInBounds_toArray]
          try simp only [List.set_cons_succ, List.set_cons_zero]
          refine wpAnyH_take (i := 6) (v := (.slice (some ⟨abX, 0, none⟩) L.length capX)) rfl (by kernel_rfl) (by kernel_rfl) (by kernel_rfl) (fun _ _ _ h => good_panic h) (Or.inl ⟨by kernel_rfl, fun w1 hSw => by clear hHeld; obtain ⟨rfl, _⟩ := hSw; go_simp⟩) hHeld ?_
          try simp only [Act.put]
          try simp only [List.getElem_toArray]
          try simp only [List.getElem_cons_succ]
          try simp only [List.getElem_cons_zero]
          try simp only [List.setIfInBounds_toArray]
          try simp only [List.set_cons_succ, List.set_cons_zero]
          refine wpAnyH_take (i := 7) (v := (.int .i64 (pre.length : Int))) rfl (by kernel_rfl) (by kernel_rfl) (by kernel_rfl) (fun _ _ _ h => good_panic h) (Or.inl ⟨by kernel_rfl, fun w1 hSw => by clear hHeld; obtain ⟨rfl, _⟩ := hSw; go_simp⟩) hHeld ?_
          try simp only [Act.put]
          try simp only [List.getElem_toArray]
          try simp only [List.getElem_cons_succ]
          try simp only [List.getElem_cons_zero]
          try simp only [List.setIfInBounds_toArray]
          try simp only [List.set_cons_succ, List.set_cons_zero]
          refine wpAnyH_take (i := 8) (v := (.pointer (some ⟨abX, pre.length * 5, none⟩))) rfl (by kernel_rfl) (by kernel_rfl) (by kernel_rfl) (fun _ _ _ h => good_panic h) (Or.inl ⟨by kernel_rfl, fun w1 hSw => by clear hHeld; obtain ⟨rfl, _⟩ := hSw; go_simp⟩) hHeld ?_
          try simp only [Act.put]
          try simp only [List.getElem_toArray]
          try simp only [List.getElem_cons_succ]
          try simp only [List.getElem_cons_zero]
          try simp only [List.setIfInBounds_toArray]
          try simp only [List.set_cons_succ, List.set_cons_zero]
          refine wpAnyH_take (i := 9) (v := x.1.val) rfl (by kernel_rfl) (by kernel_rfl) (by kernel_rfl) (fun _ _ _ h => good_panic h) (Or.inl ⟨by kernel_rfl, fun w1 hSw => by clear hHeld; obtain ⟨rfl, _⟩ := hSw; go_simp⟩) hHeld ?_
          try simp only [Act.put]
          try simp only [List.getElem_toArray]
          try simp only [List.getElem_cons_succ]
          try simp only [List.getElem_cons_zero]
          try simp only [List.setIfInBounds_toArray]
          try simp only [List.set_cons_succ, List.set_cons_zero]
          refine wpAnyH_take (i := 10) (v := (.bool false)) rfl (by kernel_rfl) (by kernel_rfl) (by kernel_rfl) (fun _ _ _ h => good_panic h) (Or.inl ⟨by kernel_rfl, fun w1 hSw => by clear hHeld; obtain ⟨rfl, _⟩ := hSw; go_simp⟩) hHeld ?_
          try simp only [Act.put]
          try simp only [List.getElem_toArray]
          try simp only [List.getElem_cons_succ]
          try simp only [List.getElem_cons_zero]
          try simp only [List.setIfInBounds_toArray]
          try simp only [List.set_cons_succ, List.set_cons_zero]
          refine wpAnyH_take (i := 11) (v := (.bool false)) rfl (by kernel_rfl) (by kernel_rfl) (by kernel_rfl) (fun _ _ _ h => good_panic h) (Or.inl ⟨by kernel_rfl, fun w1 hSw => by clear hHeld; obtain ⟨rfl, _⟩ := hSw; go_simp⟩) hHeld ?_
          try simp only [Act.put]
          try simp only [List.getElem_toArray]
          try simp only [List.getElem_cons_succ]
          try simp only [List.getElem_cons_zero]
          try simp only [List.setIfInBounds_toArray]
          try simp only [List.set_cons_succ, List.set_cons_zero]
          refine wpAnyH_done (by kernel_rfl) ?_ _
          clear hHeld
          refine ⟨rfl, ?_⟩
          try simp only [List.getElem_toArray]
          try simp only [List.getElem_cons_succ]
          try simp only [List.getElem_cons_zero]
          clear d0 d1 x0 x1 x2 x3 x4 y0 y1 y2 y3 y4 bg1 bg2 hn hgd
          generalize W.drew = V at *
          have d0 := HR.out.bk.cell
          have d1 := HR.out.te.bs.cell
          gi_wp2_with fail
          have HMN : Hid (w.heap.size + 2 < W5.heap.size) := by have h1 := HR.out.mn; have h2 := HSZ.out; show _ < _; omega
          have HR2 := hide (ra_drew HR.out)
          have HX2 : Hid (V.drew.heap[Bx]? = some x.1.obj) := HX.out
          have HK2 : Hid (KeepsFrom W5.heap.size W V.drew ∧ Kl (fun k => k = N + 2 ∨ k = X) (N + 2) W V.drew) := ⟨HK.out.1.trans (keeps_drew _ _), HK.out.2.trans (kl_drew _ _ _)⟩
          have d0 : V.drew.cell? ⟨N + 2, 0, none⟩ = some (.int .i64 (pre.length : Int)) := HR.out.bk.cell
          have d1 : V.drew.cell? ⟨w.heap.size, 0, none⟩ = some (.int .i64 st) := HR.out.te.bs.cell
          clear HR HX HK
          refine round_held (S := (fun w' => w' = V.drew ∧ True)) (by kernel_rfl) (by kernel_rfl) (⟨rfl, trivial⟩) (fun hHeld => ?_)
          refine wpAnyH_take (i := 0) (v := (.int .i64 (pre.length : Int))) rfl (by kernel_rfl) (by kernel_rfl) (by kernel_rfl) (fun _ _ _ h => good_panic h) (Or.inl ⟨by kernel_rfl, fun w1 hSw => by clear hHeld; obtain ⟨rfl, _⟩ := hSw; go_simp⟩) hHeld ?_
          try simp only [Act.put]
          try simp only [List.getElem_toArray]
          try simp only [List.getElem_cons_succ]
          try simp only [List.getElem_cons_zero]
          try simp only [List.setIfInBounds_toArray]
          try simp only [List.set_cons_succ, List.set_cons_zero]
          refine wpAnyH_take (i := 1) (v := (.int .i64 st)) rfl (by kernel_rfl) (by kernel_rfl) (by kernel_rfl) (fun _ _ _ h => good_panic h) (Or.inl ⟨by kernel_rfl, fun w1 hSw => by clear hHeld; obtain ⟨rfl, _⟩ := hSw; go_simp⟩) hHeld ?_
          try simp only [Act.put]
          try simp only [List.getElem_toArray]
          try simp only [List.getElem_cons_succ]
          try simp only [List.getElem_cons_zero]
          try simp only [List.setIfInBounds_toArray]
          try simp only [List.set_cons_succ, List.set_cons_zero]
          refine wpAnyH_ready (rs := [2]) (by kernel_rfl) (by simp) ?_
          refine AllReadyH.cons rfl (fun K hK => ?_) AllReadyH.nil
          go_simp
          refine (place9_any HST.out).mono ?_
          rintro e w5 ⟨rfl, rfl⟩
          refine hK.out _ _ (⟨rfl, trivial⟩) (fun hHeld => ?_)
          clear hK K
          try dsimp only
          try simp only [List.getElem_toArray]
          try simp only [List.getElem_cons_succ]
          try simp only [List.getElem_cons_zero]
          try simp only [List.setIfInBounds_toArray]
          try simp only [List.set_cons_succ, List.set_cons_zero]
          refine wpAnyH_take (i := 3) (v := (.bool ((pre.length : Int) == (pl st 9 : Int)))) rfl (by kernel_rfl) (by kernel_rfl) (by kernel_rfl) (fun _ _ _ h => good_panic h) (Or.inl ⟨by kernel_rfl, fun w1 hSw => by clear hHeld; obtain ⟨rfl, _⟩ := hSw; go_simp⟩) hHeld ?_
          try simp only [Act.put]
          try simp only [List.getElem_toArray]
          try simp only [List.getElem_cons_succ]
          try simp only [List.getElem_cons_zero]
          try simp only [List.setIfInBounds_toArray]
          try simp only [List.set_cons_succ, List.set_cons_zero]
          refine wpAnyH_done (by kernel_rfl) ?_ _
          clear hHeld
          refine ⟨rfl, ?_⟩
          try simp only [List.getElem_toArray]
          try simp only [List.getElem_cons_succ]
          try simp only [List.getElem_cons_zero]
          have hlen1 : ((pre ++ [x]).length : Nat) = pre.length + 1 := by rw [List.length_append]; rfl
          have HLN := hide hlen1
          clear hlen1
          generalize pl st 9 = p at *
          by_cases hkp : pre.length = p
          · have e1 : ((pre.length : Int) == (p : Int)) = true := by simp; omega
            clear hkp
            generalize V.drew = V2 at *
            have c0 := HR2.out.te.bt.cell
            gi_wp2_with fail
            refine ⟨trivial, (CallsIn.inRound kk (callsIn_wide.2 (tick_ok HR2.out.te.pr.ta))).mono ?_⟩
            rintro e w4a ⟨va, rfl, _, hta, hga⟩
            obtain ⟨m1, hxa⟩ := HR2.out.te.mid hga
            have HXA := hide hxa
            have HGA := hide hga
            have HTA := hide hta
            clear e1 d0 d1
            clear hxa hga hta c0
            gi_wp2_with fail
            refine ⟨trivial, (CallsIn.inRound kk (callsIn_wide.2 (xtick_ok HXA.out HR2.out.te.pr.ta.ok.len12 (HR2.out.te.pr.ta.ok.left HR2.out.te.pr.ta.t2)))).mono ?_⟩
            rintro e w4b ⟨vb, rfl, _, hxb, hgb⟩
            have hF := HR2.out.te.pr.both HTA.out HGA.out hxb hgb
            have HR4 := hide (HR2.out.two hF.1 hF.2)
            have HX4 : Hid (w4b.heap[Bx]? = some x.1.obj) := lease_two HX2.out HR2.out.te.pr hF.2
            have HK4 : Hid (KeepsFrom W5.heap.size W w4b ∧ Kl (fun k => k = N + 2 ∨ k = X) (N + 2) W w4b) := ⟨HK2.out.1.trans (keeps_two HR2.out.te.pr HMN.out hF.2), HK2.out.2.trans (kl_two HR2.out.te.pr (.inr rfl) HR2.out.bk hF.2)⟩
            clear hF hxb hgb HXA HGA HTA m1 HR2 HX2 HK2
            generalize tkL L' = L4 at *
            have c0 := HR4.out.te.bt.cell
            obtain ⟨_, x1, _, _, _⟩ := five_of HX4.out
            gi_wp2_with fail
            refine ⟨trivial, (CallsIn.inRound kk (callsIn_wide.2 (drop_ok HR4.out.te.pr.ta x.1.bdg))).mono ?_⟩
            rintro e w6a ⟨rfl, hta, hga⟩
            obtain ⟨m1, hxa⟩ := HR4.out.te.mid hga
            have HXA := hide hxa
            have HGA := hide hga
            have HTA := hide hta
            clear x1
            obtain ⟨_, x1, _, _, _⟩ := five_of (lease_mid HX4.out HR4.out.te.pr.mm HGA.out)
            clear hxa hga hta c0
            gi_wp2_with fail
            refine ⟨trivial, (CallsIn.inRound kk (callsIn_wide.2 (xdrop_ok HXA.out HR4.out.te.pr.ta.ok.len12 x.1.bdg))).mono ?_⟩
            rintro e w6b ⟨rfl, hxb, hgb⟩
            have hF := HR4.out.te.pr.both HTA.out HGA.out hxb hgb
            have HR6 := hide (HR4.out.two hF.1 hF.2)
            have HX6 : Hid (w6b.heap[Bx]? = some x.1.obj) := lease_two HX4.out HR4.out.te.pr hF.2
            have HK6 : Hid (KeepsFrom W5.heap.size W w6b ∧ Kl (fun k => k = N + 2 ∨ k = X) (N + 2) W w6b) := ⟨HK4.out.1.trans (keeps_two HR4.out.te.pr HMN.out hF.2), HK4.out.2.trans (kl_two HR4.out.te.pr (.inr rfl) HR4.out.bk hF.2)⟩
            clear hF hxb hgb HXA HGA HTA m1 HR4 HX4 HK4
            generalize del x.1.bdg L4 = L6 at *
            clear x1
            
            have c0 := HR6.out.te.bt.cell
            gi_wp2_with fail
            refine ⟨trivial, (CallsIn.inRound kk (callsIn_wide.2 (grant_ok HR6.out.te.pr.ta 8 1 0 0))).mono ?_⟩
            rintro e w8a ⟨rfl, hta, hga⟩
            obtain ⟨m1, hxa⟩ := HR6.out.te.mid hga
            have HXA := hide hxa
            have HGA := hide hga
            have HTA := hide hta
            clear hxa hga hta c0
            gi_wp2_with fail
            refine ⟨trivial, (CallsIn.inRound kk (callsIn_wide.2 (xgrant_ok HXA.out HR6.out.te.pr.ta.ok.len12 8 1 0 0))).mono ?_⟩
            rintro e w8b ⟨rfl, hxb, hgb⟩
            have hF := HR6.out.te.pr.both HTA.out HGA.out hxb hgb
            have HR8 := hide (HR6.out.two hF.1 hF.2)
            have HX8 : Hid (w8b.heap[Bx]? = some x.1.obj) := lease_two HX6.out HR6.out.te.pr hF.2
            have HK8 : Hid (KeepsFrom W5.heap.size W w8b ∧ Kl (fun k => k = N + 2 ∨ k = X) (N + 2) W w8b) := ⟨HK6.out.1.trans (keeps_two HR6.out.te.pr HMN.out hF.2), HK6.out.2.trans (kl_two HR6.out.te.pr (.inr rfl) HR6.out.bk hF.2)⟩
            clear hF hxb hgb HXA HGA HTA m1 HR6 HX6 HK6
            generalize grL 3 L6 8 1 0 0 = L8 at *
            have c0 := HR8.out.te.bt.cell
            gi_wp2_with fail
            refine ⟨trivial, (CallsIn.inRound kk (callsIn_wide.2 (lall_any HR8.out.te.pr.ta.tb HR8.out.te.pr.ta.ok.len12 99))).mono ?_⟩
            rintro e w9 ⟨v9, rfl, ho9, hb9⟩
            have hl8 := HR8.out.te.pr.ta.ok.len
            rw [List.take_of_length_le (by have hl8 : L8.length ≤ 8 := hl8; omega)] at ho9
            obtain ⟨ad9, cap9, hv9⟩ := own_slice ho9
            subst hv9
            obtain ⟨ab9, hR9, _⟩ := Rs.own ho9
            have HS9 := hide hR9
            have HR9 := hide (HR8.out.below hb9)
            have HK9 : Hid (KeepsFrom W5.heap.size W w9 ∧ Kl (fun k => k = N + 2 ∨ k = X) (N + 2) W w9) := ⟨HK8.out.1.trans (keeps_two HR8.out.te.pr HMN.out (Two.of_below hb9)), HK8.out.2.trans (kl_two HR8.out.te.pr (.inr rfl) HR8.out.bk (Two.of_below hb9))⟩
            obtain ⟨adY, abY, capY, hY⟩ := HR9.out.te.pr.xa
            have HY := hide hY
            have c1 := HR9.out.te.bx.cell
            have c2 := hY.c1
            clear ho9 hb9 hR9 hY c0 HR8 HX8 HK8
            gi_wp2_with fail
            refine ⟨trivial, (CallsIn.inRound kk (callsIn_wide.2 (same_self HS9.out HY.out.rs (by have hl8 : L8.length ≤ 8 := hl8; omega)))).mono ?_⟩
            rintro e w10 ⟨rfl, hb10⟩
            have HR10 := hide (HR9.out.below hb10)
            have HK10 : Hid (KeepsFrom W5.heap.size W w10 ∧ Kl (fun k => k = N + 2 ∨ k = X) (N + 2) W w10) := ⟨HK9.out.1.trans (keeps_two HR9.out.te.pr HMN.out (Two.of_below hb10)), HK9.out.2.trans (kl_two HR9.out.te.pr (.inr rfl) HR9.out.bk (Two.of_below hb10))⟩
            have c3 := HR10.out.bk.cell
            have f3 := HR10.out.bk.frozen
            clear hb10 c1 c2 HR9 HK9 HS9 HY
            gi_wp2_with fail
            refine ⟨HK10.out.1.trans ((KeepsOthers.setCell _ _ _).from _), HK10.out.2.trans (kl_set (.inl rfl) HR10.out.bk), L8, ?_⟩
            rw [HLN.out]
            exact HR10.out.set (k' := pre.length + 1)
          · have e1 : ((pre.length : Int) == (p : Int)) = false := by simp; omega
            have c3 : V.drew.cell? ⟨N + 2, 0, none⟩ = some (.int .i64 (pre.length : Int)) := d0
            have f3 := HR2.out.bk.frozen
            clear hkp
            gi_wp2_with fail
            refine ⟨HK2.out.1.trans ((KeepsOthers.setCell _ _ _).from _), HK2.out.2.trans (kl_set (.inl rfl) HR2.out.bk), L', ?_⟩
            rw [HLN.out]
            exact HR2.out.set (k' := pre.length + 1)
        · have hn := neqL_run x.1 L[pre.length]
          rw [decide_eq_false he, Bool.not_false] at hn
          have HE := hide (not_pre hlen he)
          generalize L[pre.length] = y at *
          clear he
          gi_wp2_with fail
          refine round_held (S := (fun w' => w' = W.drew ∧ True)) (by kernel_rfl) (by kernel_rfl) (⟨rfl, trivial⟩) (fun hHeld => ?_)
          refine wpAnyH_take (i := 0) (v := (.int .i64 (pre.length : Int))) rfl (by kernel_rfl) (by kernel_rfl) (by kernel_rfl) (fun _ _ _ h => good_panic h) (Or.inl ⟨by kernel_rfl, fun w1 hSw => by clear hHeld; obtain ⟨rfl, _⟩ := hSw; go_simp⟩) hHeld ?_
          try simp only [Act.put]
          try simp only [List.getElem_toArray]
          try simp only [List.getElem_cons_succ]
          try simp only [List.getElem_cons_zero]
          try simp only [List.setIfInBounds_toArray]
          try simp only [List.set_cons_succ, List.set_cons_zero]
          refine wpAnyH_take (i := 1) (v := (.slice (some ⟨abX, 0, none⟩) L.length capX)) rfl (by kernel_rfl) (by kernel_rfl) (by kernel_rfl) (fun _ _ _ h => good_panic h) (Or.inl ⟨by kernel_rfl, fun w1 hSw => by clear hHeld; obtain ⟨rfl, _⟩ := hSw; go_simp⟩) hHeld ?_
          try simp only [Act.put]
          try simp only [List.getElem_toArray]
          try simp only [List.getElem_cons_succ]
          try simp only [List.getElem_cons_zero]
          try simp only [List.setIfInBounds_toArray]
          try simp only [List.set_cons_succ, List.set_cons_zero]
          refine wpAnyH_take (i := 2) (v := (.int .i64 (L.length : Int))) rfl (by kernel_rfl) (by kernel_rfl) (by kernel_rfl) (fun _ _ _ h => good_panic h) (Or.inl ⟨by kernel_rfl, fun w1 hSw => by clear hHeld; obtain ⟨rfl, _⟩ := hSw; go_simp⟩) hHeld ?_
          try simp only [Act.put]
          try simp only [List.getElem_toArray]
          try simp only [List.getElem_cons_succ]
          try simp only [List.getElem_cons_zero]
          try simp only [List.setIfInBounds_toArray]
          try simp only [List.set_cons_succ, List.set_cons_zero]
          refine wpAnyH_take (i := 3) (v := (.bool false)) rfl (by kernel_rfl) (by kernel_rfl) (by kernel_rfl) (fun _ _ _ h => good_panic h) (Or.inl ⟨by kernel_rfl, fun w1 hSw => by clear hHeld; obtain ⟨rfl, _⟩ := hSw; go_simp⟩) hHeld ?_
          try simp only [Act.put]
          try simp only [List.getElem_toArray]
          try simp only [List.getElem_cons_succ]
          try simp only [List.getElem_cons_zero]
          try simp only [List.setIfInBounds_toArray]
          try simp only [List.set_cons_succ, List.set_cons_zero]
          refine wpAnyH_take (i := 4) (v := (.bool false)) rfl (by kernel_rfl) (by kernel_rfl) (by kernel_rfl) (fun _ _ _ h => good_panic h) (Or.inl ⟨by kernel_rfl, fun w1 hSw => by clear hHeld; obtain ⟨rfl, _⟩ := hSw; go_simp⟩) hHeld ?_
          try simp only [Act.put]
          try simp only [List.getElem_toArray]
          try simp only [List.getElem_cons_succ]
          try simp only [List.getElem_cons_zero]
          try simp only [List.setIfInBounds_toArray]
          try simp only [List.set_cons_succ, List.set_cons_zero]
          refine wpAnyH_take (i := 5) (v := x.1.val) rfl (by kernel_rfl) (by kernel_rfl) (by kernel_rfl) (fun _ _ _ h => good_panic h) (Or.inl ⟨by kernel_rfl, fun w1 hSw => by clear hHeld; obtain ⟨rfl, _⟩ := hSw; go_simp⟩) hHeld ?_
          try simp only [Act.put]
          try simp only [List.getElem_toArray]
          try simp only [List.getElem_cons_succ]
          try simp only [List.getElem_cons_zero]
          try simp only [List.setIfInBounds_toArray]
          try simp only [List.set_cons_succ, List.set_cons_zero]
          refine wpAnyH_take (i := 6) (v := (.slice (some ⟨abX, 0, none⟩) L.length capX)) rfl (by kernel_rfl) (by kernel_rfl) (by kernel_rfl) (fun _ _ _ h => good_panic h) (Or.inl ⟨by kernel_rfl, fun w1 hSw => by clear hHeld; obtain ⟨rfl, _⟩ := hSw; go_simp⟩) hHeld ?_
          try simp only [Act.put]
          try simp only [List.getElem_toArray]
          try simp only [List.getElem_cons_succ]
          try simp only [List.getElem_cons_zero]
          try simp only [List.setIfInBounds_toArray]
          try simp only [List.set_cons_succ, List.set_cons_zero]
          refine wpAnyH_take (i := 7) (v := (.int .i64 (pre.length : Int))) rfl (by kernel_rfl) (by kernel_rfl) (by kernel_rfl) (fun _ _ _ h => good_panic h) (Or.inl ⟨by kernel_rfl, fun w1 hSw => by clear hHeld; obtain ⟨rfl, _⟩ := hSw; go_simp⟩) hHeld ?_
          try simp only [Act.put]
          try simp only [List.getElem_toArray]
          try simp only [List.getElem_cons_succ]
          try simp only [List.getElem_cons_zero]
          try simp only [List.setIfInBounds_toArray]
          try simp only [List.set_cons_succ, List.set_cons_zero]
          refine wpAnyH_take (i := 8) (v := (.pointer (some ⟨abX, pre.length * 5, none⟩))) rfl (by kernel_rfl) (by kernel_rfl) (by kernel_rfl) (fun _ _ _ h => good_panic h) (Or.inl ⟨by kernel_rfl, fun w1 hSw => by clear hHeld; obtain ⟨rfl, _⟩ := hSw; go_simp⟩) hHeld ?_
          try simp only [Act.put]
          try simp only [List.getElem_toArray]
          try simp only [List.getElem_cons_succ]
          try simp only [List.getElem_cons_zero]
          try simp only [List.setIfInBounds_toArray]
          try simp only [List.set_cons_succ, List.set_cons_zero]
          refine wpAnyH_take (i := 9) (v := y.val) rfl (by kernel_rfl) (by kernel_rfl) (by kernel_rfl) (fun _ _ _ h => good_panic h) (Or.inl ⟨by kernel_rfl, fun w1 hSw => by clear hHeld; obtain ⟨rfl, _⟩ := hSw; go_simp⟩) hHeld ?_
          try simp only [Act.put]
          try simp only [List.getElem_toArray]
          try simp only [List.getElem_cons_succ]
          try simp only [List.getElem_cons_zero]
          try simp only [List.setIfInBounds_toArray]
          try simp only [List.set_cons_succ, List.set_cons_zero]
          refine wpAnyH_take (i := 10) (v := (.bool true)) rfl (by kernel_rfl) (by kernel_rfl) (by kernel_rfl) (fun _ _ _ h => good_panic h) (Or.inl ⟨by kernel_rfl, fun w1 hSw => by clear hHeld; obtain ⟨rfl, _⟩ := hSw; go_simp⟩) hHeld ?_
          try simp only [Act.put]
          try simp only [List.getElem_toArray]
          try simp only [List.getElem_cons_succ]
          try simp only [List.getElem_cons_zero]
          try simp only [List.setIfInBounds_toArray]
          try simp only [List.set_cons_succ, List.set_cons_zero]
          refine wpAnyH_take (i := 11) (v := (.bool true)) rfl (by kernel_rfl) (by kernel_rfl) (by kernel_rfl) (fun _ _ _ h => good_panic h) (Or.inl ⟨by kernel_rfl, fun w1 hSw => by clear hHeld; obtain ⟨rfl, _⟩ := hSw; go_simp⟩) hHeld ?_
          try simp only [Act.put]
          try simp only [List.getElem_toArray]
          try simp only [List.getElem_cons_succ]
          try simp only [List.getElem_cons_zero]
          try simp only [List.setIfInBounds_toArray]
          try simp only [List.set_cons_succ, List.set_cons_zero]
          refine wpAnyH_done (by kernel_rfl) ?_ _
          clear hHeld
          refine ⟨rfl, ?_⟩
          try simp only [List.getElem_toArray]
          try simp only [List.getElem_cons_succ]
          try simp only [List.getElem_cons_zero]
          clear d0 d1 x0 x1 x2 x3 x4 y0 y1 y2 y3 y4 bg1 bg2 hn hgd
          have c1 := HR.out.te.br.cell
          have f1 := HR.out.te.br.frozen
          gi_wp2_with fail
          exact ⟨HK.out.1.trans ((KeepsOthers.setCell _ _ _).from _), HE.out⟩
      case done =>
        rintro D ys W hD hp ⟨L', hR⟩ hK
        have hyl : ys.length = L.length := by have := congrArg List.length hp; rwa [List.length_map] at this
        rw [hyl] at hR
        have HR1 := hide hR
        have HKD := hide hK
        clear hR hK hp hyl
        gi_wp2_with fail
        obtain ⟨M, hM⟩ : ∃ M, (W.alloc (.cells #[.int .i64 0] 3)).heap.size = M := ⟨_, rfl⟩
        have hM2 := hM
        rw [World.size_alloc] at hM2
        obtain ⟨J, hJ⟩ : ∃ J, W.heap.size = J := ⟨_, rfl⟩
        have HRC : Hid (Rc w P Q (w.heap.size + 3) (w.heap.size + 2) X st N M D J adX abX capX L L' 0 (W.alloc (.cells #[.int .i64 0] 3))) := by
          have q1 := Boxed.new W 3 (.int .i64 0)
          rw [hJ] at q1
          have q2 := HR1.out.bk.lt
          have q3 := lt_of_block HKD.out
          exact ⟨HR1.out.below (below_alloc W _), q1, ((below_alloc W _).block D q3).trans HKD.out, by omega, by omega, by omega⟩
        have HMS := hide hM
        rw [hJ]
        have HWD : Hid (w.heap.size ≤ D) := by have h1 := HRC.out.ra.gt; have h2 := HSZ.out; show _ ≤ _; omega
        clear HR1 HKD hM hM2 hJ
        generalize W.alloc (.cells #[.int .i64 0] 3) = W6 at *
        have hlL2 := HRC.out.ra.te.pr.ta.ok.len12
        refine range_boxed 18 (fun x : {x : Lz // x ∈ L'} => x.1.obj) (fun _ => rfl) rfl (by decide) (gf := 32) (lb := #[.pointer (some ⟨N + 1, 0, none⟩)]) rfl trivial (enters_of Try.func32 (by kernel_rfl) rfl)
          (all_stops 5 (by decide) (N + 1) (w.heap.size + 3) (w.heap.size + 2) 3 L' (fun k => k = J) J W6 HRC.out.bj.lt (fun k hk => by
            rcases hk with rfl | ⟨v, h1, h2⟩
            · exact HRC.out.bj.lt
            · rw [HRC.out.bj.cell] at h1; cases h1; cases h2) HRC.out.ra.bi.cell HRC.out.ra.te.pr.ta.tb hlL2)
          Kl.trans (fun W k o o' hk ho hc _ => Kl.put (N := W6.heap.size) HRC.out.bj.lt hk ho hc) (Below.refl _ _) (fun _ => rfl)
          (fun pre W => Rc w P Q (w.heap.size + 3) (w.heap.size + 2) X st N M D J adX abX capX L L' pre.length W)
          (fun _ pre _ => ¬ pre.map Subtype.val = L'.take pre.length)
          ?hI2 (fun _ _ _ _ _ hs _ _ => hs) HRC.out ?assign2 ?body2 ?done2 ?stop2
        case hI2 =>
          rintro pre W W' row h1 hg hr
          exact h1.others hg (fun q e => ⟨by have := (hr q e).1; have := HMS.out; omega, (hr q e).2⟩)
        case assign2 =>
          rintro k pre x W K hR hK
          have hbl := hR.bj.lt
          gi_wp2
          exact hK _ _ ((KeepsOthers.alloc _ _).from _) (Kl.alloc hbl _) (hR.below (below_alloc W _)) ⟨W.heap.size, heap_alloc_new W _, by simp⟩
        case stop2 =>
          rintro D c pre W hD ⟨k, hk, hpk⟩ hn _
          refine absurd ?_ hn
          have h1 := congrArg List.length hpk
          rw [List.length_map, List.length_take] at h1
          rw [hpk, h1, Nat.min_eq_left hk]
        case body2 =>
          rintro kk pre x Bx W hR hx hlen
          have HR : Hid (Rc w P Q (w.heap.size + 3) (w.heap.size + 2) X st N M D J adX abX capX L L' pre.length W.drew) := hR.below ⟨rfl, rfl, rfl, Nat.le_refl _, fun _ _ => rfl⟩
          have HX : Hid (W.drew.heap[Bx]? = some x.1.obj) := hx
          obtain ⟨adY, abY, capY, hY⟩ := HR.out.ra.te.pr.xa
          have hatL := hY.rs.at_ (Nat.lt_of_le_of_lt (Nat.zero_le _) hlen)
          subst hatL
          have d0 := HR.out.bj.cell
          have d1 := HR.out.ra.te.bx.cell
          have d2 := hY.c1
          obtain ⟨x0, x1, x2, x3, x4⟩ := five_of HX.out
          obtain ⟨y0, y1, y2, y3, y4⟩ := hY.rs.eight0 hlen
          have hli : (pre.length : Int) < (L'.length : Int) := by omega
          have hgd := guardL
          have bg1 : decide ((L'.length : Int) ≤ (pre.length : Int)) = false := by simp; omega
          have bg2 : decide (L'.length ≤ pre.length) = false := by simp; omega
          have HK : Hid (KeepsFrom W6.heap.size W W.drew ∧ Kl (fun k => k = J) J W W.drew) := ⟨keeps_drew _ _, kl_drew _ _ _⟩
          have HLN : Hid ((pre ++ [x]).length = pre.length + 1) := by show _ = _; rw [List.length_append]; rfl
          clear hR hx hY
          by_cases he : x.1 = L'[pre.length]
          · rw [← he] at y0 y1 y2 y3 y4
            have hn := neqL_run x.1 x.1
            rw [decide_eq_true rfl, Bool.not_true] at hn
            have f0 := HR.out.bj.frozen
            clear he
            gi_wp2_with fail
            refine round_held (S := (fun w' => w' = W.drew ∧ True)) (by kernel_rfl) (by kernel_rfl) (⟨rfl, trivial⟩) (fun hHeld => ?_)
            refine wpAnyH_take (i := 0) (v := (.int .i64 (pre.length : Int))) rfl (by kernel_rfl) (by kernel_rfl) (by kernel_rfl) (fun _ _ _ h => good_panic h) (Or.inl ⟨by kernel_rfl, fun w1 hSw => by clear hHeld; obtain ⟨rfl, _⟩ := hSw; go_simp⟩) hHeld ?_
            try simp only [Act.put]
            try simp only [List.getElem_toArray]
            try simp only [List.getElem_cons_succ]
            try simp only [List.getElem_cons_zero]
            try simp only [List.setIfInBounds_toArray]
            try simp only [List.set_cons_succ, List.set_cons_zero]
            refine wpAnyH_take (i := 1) (v := (.pointer (some ⟨X, 0, none⟩))) rfl (by kernel_rfl) (by kernel_rfl) (by kernel_rfl) (fun _ _ _ h => good_panic h) (Or.inl ⟨by kernel_rfl, fun w1 hSw => by clear hHeld; obtain ⟨rfl, _⟩ := hSw; go_simp⟩) hHeld ?_
            try simp only [Act.put]
            try simp only [List.getElem_toArray]
            try simp only [List.getElem_cons_succ]
            try simp only [List.getElem_cons_zero]
            try simp only [List.setIfInBounds_toArray]
            try simp only [List.set_cons_succ, List.set_cons_zero]
            refine wpAnyH_take (i := 2) (v := (.pointer (some ⟨X, 0, none⟩))) rfl (by kernel_rfl) (by kernel_rfl) (by kernel_rfl) (fun _ _ _ h => good_panic h) (Or.inl ⟨by kernel_rfl, fun w1 hSw => by clear hHeld; obtain ⟨rfl, _⟩ := hSw; go_simp⟩) hHeld ?_
            try simp only [Act.put]
            try simp only [List.getElem_toArray]
            try simp only [List.getElem_cons_succ]
            try simp only [List.getElem_cons_zero]
            try simp only [List.setIfInBounds_toArray]
            try simp only [List.set_cons_succ, List.set_cons_zero]
            refine wpAnyH_take (i := 3) (v := (.pointer (some ⟨X, 1, none⟩))) rfl (by kernel_rfl) (by kernel_rfl) (by kernel_rfl) (fun _ _ _ h => good_panic h) (Or.inl ⟨by kernel_rfl, fun w1 hSw => by clear hHeld; obtain ⟨rfl, _⟩ := hSw; go_simp⟩) hHeld ?_
            try simp only [Act.put]
            try simp only [List.getElem_toArray]
            try simp only [List.getElem_cons_succ]
            try simp only [List.getElem_cons_zero]
            try simp only [List.setIfInBounds_toArray]
            try simp only [List.set_cons_succ, List.set_cons_zero]
            refine wpAnyH_take (i := 4) (v := (.slice (some ⟨abY, 0, none⟩) L'.length capY)) rfl (by kernel_rfl) (by kernel_rfl) (by kernel_rfl) (fun _ _ _ h => good_panic h) (Or.inl ⟨by kernel_rfl, fun w1 hSw => by clear hHeld; obtain ⟨rfl, _⟩ := hSw; go_simp⟩) hHeld ?_
            try simp only [Act.put]
            try simp only [List.getElem_toArray]
            try simp only [List.getElem_cons_succ]
            try simp only [List.getElem_cons_zero]
            try simp only [List.setIfInBounds_toArray]
            try simp only [List.set_cons_succ, List.set_cons_zero]
            refine wpAnyH_take (i := 5) (v := (.int .i64 (L'.length : Int))) rfl (by kernel_rfl) (by kernel_rfl) (by kernel_rfl) (fun _ _ _ h => good_panic h) (Or.inl ⟨by kernel_rfl, fun w1 hSw => by clear hHeld; obtain ⟨rfl, _⟩ := hSw; go_simp⟩) hHeld ?_
            try simp only [Act.put]
            try simp only [List.getElem_toArray]
            try simp only [List.getElem_cons_succ]
            try simp only [List.getElem_cons_zero]
            try simp only [List.setIfInBounds_toArray]
            try simp only [List.set_cons_succ, List.set_cons_zero]
            refine wpAnyH_take (i := 6) (v := (.bool false)) rfl (by kernel_rfl) (by kernel_rfl) (by kernel_rfl) (fun _ _ _ h => good_panic h) (Or.inl ⟨by kernel_rfl, fun w1 hSw => by clear hHeld; obtain ⟨rfl, _⟩ := hSw; go_simp⟩) hHeld ?_
            try simp only [Act.put]
            try simp only [List.getElem_toArray]
            try simp only [List.getElem_cons_succ]
            try simp only [List.getElem_cons_zero]
            try simp only [List.setIfInBounds_toArray]
            try simp only [List.set_cons_succ, List.set_cons_zero]
            refine wpAnyH_take (i := 7) (v := (.bool false)) rfl (by kernel_rfl) (by kernel_rfl) (by kernel_rfl) (fun _ _ _ h => good_panic h) (Or.inl ⟨by kernel_rfl, fun w1 hSw => by clear hHeld; obtain ⟨rfl, _⟩ := hSw; go_simp⟩) hHeld ?_
            try simp only [Act.put]
            try simp only [List.getElem_toArray]
            try simp only [List.getElem_cons_succ]
            try simp only [List.getElem_cons_zero]
            try simp only [List.setIfInBounds_toArray]
            try simp only [List.set_cons_succ, List.set_cons_zero]
            refine wpAnyH_take (i := 8) (v := x.1.val) rfl (by kernel_rfl) (by kernel_rfl) (by kernel_rfl) (fun _ _ _ h => good_panic h) (Or.inl ⟨by kernel_rfl, fun w1 hSw => by clear hHeld; obtain ⟨rfl, _⟩ := hSw; go_simp⟩) hHeld ?_
            try simp only [Act.put]
            try simp only [List.getElem_toArray]
            try simp only [List.getElem_cons_succ]
            try simp only [List.getElem_cons_zero]
            try simp only [List.setIfInBounds_toArray]
            try simp only [List.set_cons_succ, List.set_cons_zero]
            refine wpAnyH_take (i := 9) (v := (.pointer (some ⟨X, 0, none⟩))) rfl (by kernel_rfl) (by kernel_rfl) (by kernel_rfl) (fun _ _ _ h => good_panic h) (Or.inl ⟨by kernel_rfl, fun w1 hSw => by clear hHeld; obtain ⟨rfl, _⟩ := hSw; go_simp⟩) hHeld ?_
            try simp only [Act.put]
            try simp only [List.getElem_toArray]
            try simp only [List.getElem_cons_succ]
            try simp only [List.getElem_cons_zero]
            try simp only [List.setIfInBounds_toArray]
            try simp only [List.set_cons_succ, List.set_cons_zero]
            refine wpAnyH_take (i := 10) (v := (.pointer (some ⟨X, 0, none⟩))) rfl (by kernel_rfl) (by kernel_rfl) (by kernel_rfl) (fun _ _ _ h => good_panic h) (Or.inl ⟨by kernel_rfl, fun w1 hSw => by clear hHeld; obtain ⟨rfl, _⟩ := hSw; go_simp⟩) hHeld ?_
            try simp only [Act.put]
            try simp only [List.getElem_toArray]
            try simp only [List.getElem_cons_succ]
            try simp only [List.getElem_cons_zero]
            try simp only [List.setIfInBounds_toArray]
            try simp only [List.set_cons_succ, List.set_cons_zero]
            refine wpAnyH_take (i := 11) (v := (.pointer (some ⟨X, 1, none⟩))) rfl (by kernel_rfl) (by kernel_rfl) (by kernel_rfl) (fun _ _ _ h => good_panic h) (Or.inl ⟨by kernel_rfl, fun w1 hSw => by clear hHeld; obtain ⟨rfl, _⟩ := hSw; go_simp⟩) hHeld ?_
            try simp only [Act.put]
            try simp only [List.getElem_toArray]
            try simp only [List.getElem_cons_succ]
            try simp only [List.getElem_cons_zero]
            try simp only [List.setIfInBounds_toArray]
            try simp only [List.set_cons_succ, List.set_cons_zero]
            refine wpAnyH_take (i := 12) (v := (.slice (some ⟨abY, 0, none⟩) L'.length capY)) rfl (by kernel_rfl) (by kernel_rfl) (by kernel_rfl) (fun _ _ _ h => good_panic h) (Or.inl ⟨by kernel_rfl, fun w1 hSw => by clear hHeld; obtain ⟨rfl, _⟩ := hSw; go_simp⟩) hHeld ?_
            try simp only [Act.put]
            try simp only [List.getElem_toArray]
            try simp only [List.getElem_cons_succ]
            try simp only [List.getElem_cons_zero]
            try simp only [List.setIfInBounds_toArray]
            try simp only [List.set_cons_succ, List.set_cons_zero]
            refine wpAnyH_take (i := 13) (v := (.int .i64 (pre.length : Int))) rfl (by kernel_rfl) (by kernel_rfl) (by kernel_rfl) (fun _ _ _ h => good_panic h) (Or.inl ⟨by kernel_rfl, fun w1 hSw => by clear hHeld; obtain ⟨rfl, _⟩ := hSw; go_simp⟩) hHeld ?_
            try simp only [Act.put]
            try simp only [List.getElem_toArray]
            try simp only [List.getElem_cons_succ]
            try simp only [List.getElem_cons_zero]
            try simp only [List.setIfInBounds_toArray]
            try simp only [List.set_cons_succ, List.set_cons_zero]
            refine wpAnyH_take (i := 14) (v := (.pointer (some ⟨abY, pre.length * 5, none⟩))) rfl (by kernel_rfl) (by kernel_rfl) (by kernel_rfl) (fun _ _ _ h => good_panic h) (Or.inl ⟨by kernel_rfl, fun w1 hSw => by clear hHeld; obtain ⟨rfl, _⟩ := hSw; go_simp⟩) hHeld ?_
            try simp only [Act.put]
            try simp only [List.getElem_toArray]
            try simp only [List.getElem_cons_succ]
            try simp only [List.getElem_cons_zero]
            try simp only [List.setIfInBounds_toArray]
            try simp only [List.set_cons_succ, List.set_cons_zero]
            refine wpAnyH_take (i := 15) (v := x.1.val) rfl (by kernel_rfl) (by kernel_rfl) (by kernel_rfl) (fun _ _ _ h => good_panic h) (Or.inl ⟨by kernel_rfl, fun w1 hSw => by clear hHeld; obtain ⟨rfl, _⟩ := hSw; go_simp⟩) hHeld ?_
            try simp only [Act.put]
            try simp only [List.getElem_toArray]
            try simp only [List.getElem_cons_succ]
            try simp only [List.getElem_cons_zero]
            try simp only [List.setIfInBounds_toArray]
            try simp only [List.set_cons_succ, List.set_cons_zero]
            refine wpAnyH_take (i := 16) (v := (.bool false)) rfl (by kernel_rfl) (by kernel_rfl) (by kernel_rfl) (fun _ _ _ h => good_panic h) (Or.inl ⟨by kernel_rfl, fun w1 hSw => by clear hHeld; obtain ⟨rfl, _⟩ := hSw; go_simp⟩) hHeld ?_
            try simp only [Act.put]
            try simp only [List.getElem_toArray]
            try simp only [List.getElem_cons_succ]
            try simp only [List.getElem_cons_zero]
            try simp only [List.setIfInBounds_toArray]
            try simp only [List.set_cons_succ, List.set_cons_zero]
            refine wpAnyH_take (i := 17) (v := (.bool false)) rfl (by kernel_rfl) (by kernel_rfl) (by kernel_rfl) (fun _ _ _ h => good_panic h) (Or.inl ⟨by kernel_rfl, fun w1 hSw => by clear hHeld; obtain ⟨rfl, _⟩ := hSw; go_simp⟩) hHeld ?_
            try simp only [Act.put]
            try simp only [List.getElem_toArray]
            try simp only [List.getElem_cons_succ]
            try simp only [List.getElem_cons_zero]
            try simp only [List.setIfInBounds_toArray]
            try simp only [List.set_cons_succ, List.set_cons_zero]
            refine wpAnyH_done (by kernel_rfl) ?_ _
            clear hHeld
            refine ⟨rfl, ?_⟩
            try simp only [List.getElem_toArray]
            try simp only [List.getElem_cons_succ]
            try simp only [List.getElem_cons_zero]
            clear d1 d2 x0 x1 x2 x3 x4 y0 y1 y2 y3 y4 bg1 bg2 hn hgd
            gi_wp2_with fail
            refine ⟨HK.out.1.trans ((KeepsOthers.setCell _ _ _).from _), HK.out.2.trans (kl_set rfl HR.out.bj), ?_⟩
            show Rc w P Q (w.heap.size + 3) (w.heap.size + 2) X st N M D J adX abX capX L L' (pre ++ [x]).length _
            rw [HLN.out]
            exact HR.out.set (j' := pre.length + 1)
          · have hn := neqL_run x.1 L'[pre.length]
            rw [decide_eq_false he, Bool.not_false] at hn
            have HE := hide (not_pre hlen he)
            generalize L'[pre.length] = y at *
            clear he
            gi_wp2_with fail
            refine round_held (S := (fun w' => w' = W.drew ∧ True)) (by kernel_rfl) (by kernel_rfl) (⟨rfl, trivial⟩) (fun hHeld => ?_)
            refine wpAnyH_take (i := 0) (v := (.int .i64 (pre.length : Int))) rfl (by kernel_rfl) (by kernel_rfl) (by kernel_rfl) (fun _ _ _ h => good_panic h) (Or.inl ⟨by kernel_rfl, fun w1 hSw => by clear hHeld; obtain ⟨rfl, _⟩ := hSw; go_simp⟩) hHeld ?_
            try simp only [Act.put]
            try simp only [List.getElem_toArray]
            try simp only [List.getElem_cons_succ]
            try simp only [List.getElem_cons_zero]
            try simp only [List.setIfInBounds_toArray]
            try simp only [List.set_cons_succ, List.set_cons_zero]
            refine wpAnyH_take (i := 1) (v := (.pointer (some ⟨X, 0, none⟩))) rfl (by kernel_rfl) (by kernel_rfl) (by kernel_rfl) (fun _ _ _ h => good_panic h) (Or.inl ⟨by kernel_rfl, fun w1 hSw => by clear hHeld; obtain ⟨rfl, _⟩ := hSw; go_simp⟩) hHeld ?_
            try simp only [Act.put]
            try simp only [List.getElem_toArray]
            try simp only [List.getElem_cons_succ]
            try simp only [List.getElem_cons_zero]
            try simp only [List.setIfInBounds_toArray]
            try simp only [List.set_cons_succ, List.set_cons_zero]
            refine wpAnyH_take (i := 2) (v := (.pointer (some ⟨X, 0, none⟩))) rfl (by kernel_rfl) (by kernel_rfl) (by kernel_rfl) (fun _ _ _ h => good_panic h) (Or.inl ⟨by kernel_rfl, fun w1 hSw => by clear hHeld; obtain ⟨rfl, _⟩ := hSw; go_simp⟩) hHeld ?_
            try simp only [Act.put]
            try simp only [List.getElem_toArray]
            try simp only [List.getElem_cons_succ]
            try simp only [List.getElem_cons_zero]
            try simp only [List.setIfInBounds_toArray]
            try simp only [List.set_cons_succ, List.set_cons_zero]
            refine wpAnyH_take (i := 3) (v := (.pointer (some ⟨X, 1, none⟩))) rfl (by kernel_rfl) (by kernel_rfl) (by kernel_rfl) (fun _ _ _ h => good_panic h) (Or.inl ⟨by kernel_rfl, fun w1 hSw => by clear hHeld; obtain ⟨rfl, _⟩ := hSw; go_simp⟩) hHeld ?_
            try simp only [Act.put]
            try simp only [List.getElem_toArray]
            try simp only [List.getElem_cons_succ]
            try simp only [List.getElem_cons_zero]
            try simp only [List.setIfInBounds_toArray]
            try simp only [List.set_cons_succ, List.set_cons_zero]
            refine wpAnyH_take (i := 4) (v := (.slice (some ⟨abY, 0, none⟩) L'.length capY)) rfl (by kernel_rfl) (by kernel_rfl) (by kernel_rfl) (fun _ _ _ h => good_panic h) (Or.inl ⟨by kernel_rfl, fun w1 hSw => by clear hHeld; obtain ⟨rfl, _⟩ := hSw; go_simp⟩) hHeld ?_
            try simp only [Act.put]
            try simp only [List.getElem_toArray]
            try simp only [List.getElem_cons_succ]
            try simp only [List.getElem_cons_zero]
            try simp only [List.setIfInBounds_toArray]
            try simp only [List.set_cons_succ, List.set_cons_zero]
            refine wpAnyH_take (i := 5) (v := (.int .i64 (L'.length : Int))) rfl (by kernel_rfl) (by kernel_rfl) (by kernel_rfl) (fun _ _ _ h => good_panic h) (Or.inl ⟨by kernel_rfl, fun w1 hSw => by clear hHeld; obtain ⟨rfl, _⟩ := hSw; go_simp⟩) hHeld ?_
            try simp only [Act.put]
            try simp only [List.getElem_toArray]
            try simp only [List.getElem_cons_succ]
            try simp only [List.getElem_cons_zero]
            try simp only [List.setIfInBounds_toArray]
            try simp only [List.set_cons_succ, List.set_cons_zero]
            refine wpAnyH_take (i := 6) (v := (.bool false)) rfl (by kernel_rfl) (by kernel_rfl) (by kernel_rfl) (fun _ _ _ h => good_panic h) (Or.inl ⟨by kernel_rfl, fun w1 hSw => by clear hHeld; obtain ⟨rfl, _⟩ := hSw; go_simp⟩) hHeld ?_
            try simp only [Act.put]
            try simp only [List.getElem_toArray]
            try simp only [List.getElem_cons_succ]
            try simp only [List.getElem_cons_zero]
            try simp only [List.setIfInBounds_toArray]
            try simp only [List.set_cons_succ, List.set_cons_zero]
            refine wpAnyH_take (i := 7) (v := (.bool false)) rfl (by kernel_rfl) (by kernel_rfl) (by kernel_rfl) (fun _ _ _ h => good_panic h) (Or.inl ⟨by kernel_rfl, fun w1 hSw => by clear hHeld; obtain ⟨rfl, _⟩ := hSw; go_simp⟩) hHeld ?_
            try simp only [Act.put]
            try simp only [List.getElem_toArray]
            try simp only [List.getElem_cons_succ]
            try simp only [List.getElem_cons_zero]
            try simp only [List.setIfInBounds_toArray]
            try simp only [List.set_cons_succ, List.set_cons_zero]
            refine wpAnyH_take (i := 8) (v := x.1.val) rfl (by kernel_rfl) (by kernel_rfl) (by kernel_rfl) (fun _ _ _ h => good_panic h) (Or.inl ⟨by kernel_rfl, fun w1 hSw => by clear hHeld; obtain ⟨rfl, _⟩ := hSw; go_simp⟩) hHeld ?_
            try simp only [Act.put]
            try simp only [List.getElem_toArray]
            try simp only [List.getElem_cons_succ]
            try simp only [List.getElem_cons_zero]
            try simp only [List.setIfInBounds_toArray]
            try simp only [List.set_cons_succ, List.set_cons_zero]
            refine wpAnyH_take (i := 9) (v := (.pointer (some ⟨X, 0, none⟩))) rfl (by kernel_rfl) (by kernel_rfl) (by kernel_rfl) (fun _ _ _ h => good_panic h) (Or.inl ⟨by kernel_rfl, fun w1 hSw => by clear hHeld; obtain ⟨rfl, _⟩ := hSw; go_simp⟩) hHeld ?_
            try simp only [Act.put]
            try simp only [List.getElem_toArray]
            try simp only [List.getElem_cons_succ]
            try simp only [List.getElem_cons_zero]
            try simp only [List.setIfInBounds_toArray]
            try simp only [List.set_cons_succ, List.set_cons_zero]
            refine wpAnyH_take (i := 10) (v := (.pointer (some ⟨X, 0, none⟩))) rfl (by kernel_rfl) (by kernel_rfl) (by kernel_rfl) (fun _ _ _ h => good_panic h) (Or.inl ⟨by kernel_rfl, fun w1 hSw => by clear hHeld; obtain ⟨rfl, _⟩ := hSw; go_simp⟩) hHeld ?_
            try simp only [Act.put]
            try simp only [List.getElem_toArray]
            try simp only [List.getElem_cons_succ]
            try simp only [List.getElem_cons_zero]
            try simp only [List.setIfInBounds_toArray]
            try simp only [List.set_cons_succ, List.set_cons_zero]
            refine wpAnyH_take (i := 11) (v := (.pointer (some ⟨X, 1, none⟩))) rfl (by kernel_rfl) (by kernel_rfl) (by kernel_rfl) (fun _ _ _ h => good_panic h) (Or.inl ⟨by kernel_rfl, fun w1 hSw => by clear hHeld; obtain ⟨rfl, _⟩ := hSw; go_simp⟩) hHeld ?_
            try simp only [Act.put]
            try simp only [List.getElem_toArray]
            try simp only [List.getElem_cons_succ]
            try simp only [List.getElem_cons_zero]
            try simp only [List.setIfInBounds_toArray]
            try simp only [List.set_cons_succ, List.set_cons_zero]
            refine wpAnyH_take (i := 12) (v := (.slice (some ⟨abY, 0, none⟩) L'.length capY)) rfl (by kernel_rfl) (by kernel_rfl) (by kernel_rfl) (fun _ _ _ h => good_panic h) (Or.inl ⟨by kernel_rfl, fun w1 hSw => by clear hHeld; obtain ⟨rfl, _⟩ := hSw; go_simp⟩) hHeld ?_
            try simp only [Act.put]
            try simp only [List.getElem_toArray]
            try simp only [List.getElem_cons_succ]
            try simp only [List.getElem_cons_zero]
            try simp only [List.setIfInBounds_toArray]
            try simp only [List.set_cons_succ, List.set_cons_zero]
            refine wpAnyH_take (i := 13) (v := (.int .i64 (pre.length : Int))) rfl (by kernel_rfl) (by kernel_rfl) (by kernel_rfl) (fun _ _ _ h => good_panic h) (Or.inl ⟨by kernel_rfl, fun w1 hSw => by clear hHeld; obtain ⟨rfl, _⟩ := hSw; go_simp⟩) hHeld ?_
            try simp only [Act.put]
            try simp only [List.getElem_toArray]
            try simp only [List.getElem_cons_succ]
            try simp only [List.getElem_cons_zero]
            try simp only [List.setIfInBounds_toArray]
            try simp only [List.set_cons_succ, List.set_cons_zero]
            refine wpAnyH_take (i := 14) (v := (.pointer (some ⟨abY, pre.length * 5, none⟩))) rfl (by kernel_rfl) (by kernel_rfl) (by kernel_rfl) (fun _ _ _ h => good_panic h) (Or.inl ⟨by kernel_rfl, fun w1 hSw => by clear hHeld; obtain ⟨rfl, _⟩ := hSw; go_simp⟩) hHeld ?_
            try simp only [Act.put]
            try simp only [List.getElem_toArray]
            try simp only [List.getElem_cons_succ]
            try simp only [List.getElem_cons_zero]
            try simp only [List.setIfInBounds_toArray]
            try simp only [List.set_cons_succ, List.set_cons_zero]
            refine wpAnyH_take (i := 15) (v := y.val) rfl (by kernel_rfl) (by kernel_rfl) (by kernel_rfl) (fun _ _ _ h => good_panic h) (Or.inl ⟨by kernel_rfl, fun w1 hSw => by clear hHeld; obtain ⟨rfl, _⟩ := hSw; go_simp⟩) hHeld ?_
            try simp only [Act.put]
            try simp only [List.getElem_toArray]
            try simp only [List.getElem_cons_succ]
            try simp only [List.getElem_cons_zero]
            try simp only [List.setIfInBounds_toArray]
            try simp only [List.set_cons_succ, List.set_cons_zero]
            refine wpAnyH_take (i := 16) (v := (.bool true)) rfl (by kernel_rfl) (by kernel_rfl) (by kernel_rfl) (fun _ _ _ h => good_panic h) (Or.inl ⟨by kernel_rfl, fun w1 hSw => by clear hHeld; obtain ⟨rfl, _⟩ := hSw; go_simp⟩) hHeld ?_
            try simp only [Act.put]
            try simp only [List.getElem_toArray]
            try simp only [List.getElem_cons_succ]
            try simp only [List.getElem_cons_zero]
            try simp only [List.setIfInBounds_toArray]
            try simp only [List.set_cons_succ, List.set_cons_zero]
            refine wpAnyH_take (i := 17) (v := (.bool true)) rfl (by kernel_rfl) (by kernel_rfl) (by kernel_rfl) (fun _ _ _ h => good_panic h) (Or.inl ⟨by kernel_rfl, fun w1 hSw => by clear hHeld; obtain ⟨rfl, _⟩ := hSw; go_simp⟩) hHeld ?_
            try simp only [Act.put]
            try simp only [List.getElem_toArray]
            try simp only [List.getElem_cons_succ]
            try simp only [List.getElem_cons_zero]
            try simp only [List.setIfInBounds_toArray]
            try simp only [List.set_cons_succ, List.set_cons_zero]
            refine wpAnyH_done (by kernel_rfl) ?_ _
            clear hHeld
            refine ⟨rfl, ?_⟩
            try simp only [List.getElem_toArray]
            try simp only [List.getElem_cons_succ]
            try simp only [List.getElem_cons_zero]
            clear d0 d1 d2 x0 x1 x2 x3 x4 y0 y1 y2 y3 y4 bg1 bg2 hn hgd
            have c1 := HR.out.ra.te.br.cell
            have f1 := HR.out.ra.te.br.frozen
            gi_wp2_with fail
            exact ⟨HK.out.1.trans ((KeepsOthers.setCell _ _ _).from _), HE.out⟩
        case done2 =>
          rintro D2 zs W hD2 hp2 hR hK2
          have hzl : zs.length = L'.length := by have := congrArg List.length hp2; rwa [List.length_map] at this
          have hR : Rc w P Q (w.heap.size + 3) (w.heap.size + 2) X st N M D J adX abX capX L L' zs.length W := hR
          rw [hzl] at hR
          have HR1 := hide hR
          have HK2 := hide hK2
          have HD2 : Hid (M ≤ D2) := by have := HMS.out; show _ ≤ _; omega
          clear hR hK2 hp2 hzl hD2
          obtain ⟨adY, abY, capY, hY⟩ := HR1.out.ra.te.pr.xa
          have HRD : Hid (Rc w P Q (w.heap.size + 3) (w.heap.size + 2) X st N M D J adX abX capX L L' L'.length W.drew) := HR1.out.below ⟨rfl, rfl, rfl, Nat.le_refl _, fun _ _ => rfl⟩
          have HKD : Hid (W.drew.heap[D2]? = some (.deferred (some []))) := HK2.out
          have c4 : W.drew.cell? ⟨X, 1, none⟩ = some (.slice adY L'.length capY) := hY.c1
          have HX1 := hide c4
          clear HR1 HK2 hY c4
          have e1 : ((L.length : Int) == (L.length : Int)) = true := by simp
          have e2 : ((L'.length : Int) == (L'.length : Int)) = true := by simp
          gi_wp2_with fail
          refine wide_held (S := (fun w' => (w'.cell? ⟨N + 2, 0, none⟩ = some (.int .i64 (L.length : Int)) ∧ w'.cell? ⟨N, 0, none⟩ = some (.slice adX L.length capX)) ∧ w'.cell? ⟨J, 0, none⟩ = some (.int .i64 (L'.length : Int)) ∧ w'.cell? ⟨Q, 0, none⟩ = some (.pointer (some ⟨X, 0, none⟩)) ∧ w'.cell? ⟨X, 1, none⟩ = some (.slice adY L'.length capY))) (by kernel_rfl) (by kernel_rfl) (⟨⟨HRD.out.ra.bk.cell, HRD.out.ra.bw.cell⟩, HRD.out.bj.cell, HRD.out.ra.te.bx.cell, HX1.out⟩) (fun hHeld => ?_)
          refine wpAnyH_take (i := 0) (v := (.int .i64 (L.length : Int))) rfl (by kernel_rfl) (by kernel_rfl) (by kernel_rfl) (fun _ _ _ h => good_panic h) (Or.inl ⟨by kernel_rfl, fun w1 hSw => by clear hHeld; obtain ⟨⟨s0, s1⟩, s2, s3, s4⟩ := hSw; go_simp⟩) hHeld ?_
          try simp only [Act.put]
          try simp only [List.getElem_toArray]
          try simp only [List.getElem_cons_succ]
          try simp only [List.getElem_cons_zero]
          try simp only [List.setIfInBounds_toArray]
          try simp only [List.set_cons_succ, List.set_cons_zero]
          refine wpAnyH_take (i := 1) (v := (.slice adX L.length capX)) rfl (by kernel_rfl) (by kernel_rfl) (by kernel_rfl) (fun _ _ _ h => good_panic h) (Or.inl ⟨by kernel_rfl, fun w1 hSw => by clear hHeld; obtain ⟨⟨s0, s1⟩, s2, s3, s4⟩ := hSw; go_simp⟩) hHeld ?_
          try simp only [Act.put]
          try simp only [List.getElem_toArray]
          try simp only [List.getElem_cons_succ]
          try simp only [List.getElem_cons_zero]
          try simp only [List.setIfInBounds_toArray]
          try simp only [List.set_cons_succ, List.set_cons_zero]
          refine wpAnyH_take (i := 2) (v := (.int .i64 (L.length : Int))) rfl (by kernel_rfl) (by kernel_rfl) (by kernel_rfl) (fun _ _ _ h => good_panic h) (Or.inl ⟨by kernel_rfl, fun w1 hSw => by clear hHeld; obtain ⟨⟨s0, s1⟩, s2, s3, s4⟩ := hSw; go_simp⟩) hHeld ?_
          try simp only [Act.put]
          try simp only [List.getElem_toArray]
          try simp only [List.getElem_cons_succ]
          try simp only [List.getElem_cons_zero]
          try simp only [List.setIfInBounds_toArray]
          try simp only [List.set_cons_succ, List.set_cons_zero]
          refine wpAnyH_take (i := 3) (v := (.bool true)) rfl (by kernel_rfl) (by kernel_rfl) (by kernel_rfl) (fun _ _ _ h => good_panic h) (Or.inl ⟨by kernel_rfl, fun w1 hSw => by clear hHeld; obtain ⟨⟨s0, s1⟩, s2, s3, s4⟩ := hSw; go_simp⟩) hHeld ?_
          try simp only [Act.put]
          try simp only [List.getElem_toArray]
          try simp only [List.getElem_cons_succ]
          try simp only [List.getElem_cons_zero]
          try simp only [List.setIfInBounds_toArray]
          try simp only [List.set_cons_succ, List.set_cons_zero]
          refine wpAnyH_take (i := 4) (v := (.bool true)) rfl (by kernel_rfl) (by kernel_rfl) (by kernel_rfl) (fun _ _ _ h => good_panic h) (Or.inl ⟨by kernel_rfl, fun w1 hSw => by clear hHeld; obtain ⟨⟨s0, s1⟩, s2, s3, s4⟩ := hSw; go_simp⟩) hHeld ?_
          try simp only [Act.put]
          try simp only [List.getElem_toArray]
          try simp only [List.getElem_cons_succ]
          try simp only [List.getElem_cons_zero]
          try simp only [List.setIfInBounds_toArray]
          try simp only [List.set_cons_succ, List.set_cons_zero]
          refine wpAnyH_take (i := 5) (v := (.int .i64 (L'.length : Int))) rfl (by kernel_rfl) (by kernel_rfl) (by kernel_rfl) (fun _ _ _ h => good_panic h) (Or.inl ⟨by kernel_rfl, fun w1 hSw => by clear hHeld; obtain ⟨⟨s0, s1⟩, s2, s3, s4⟩ := hSw; go_simp⟩) hHeld ?_
          try simp only [Act.put]
          try simp only [List.getElem_toArray]
          try simp only [List.getElem_cons_succ]
          try simp only [List.getElem_cons_zero]
          try simp only [List.setIfInBounds_toArray]
          try simp only [List.set_cons_succ, List.set_cons_zero]
          refine wpAnyH_take (i := 6) (v := (.pointer (some ⟨X, 0, none⟩))) rfl (by kernel_rfl) (by kernel_rfl) (by kernel_rfl) (fun _ _ _ h => good_panic h) (Or.inl ⟨by kernel_rfl, fun w1 hSw => by clear hHeld; obtain ⟨⟨s0, s1⟩, s2, s3, s4⟩ := hSw; go_simp⟩) hHeld ?_
          try simp only [Act.put]
          try simp only [List.getElem_toArray]
          try simp only [List.getElem_cons_succ]
          try simp only [List.getElem_cons_zero]
          try simp only [List.setIfInBounds_toArray]
          try simp only [List.set_cons_succ, List.set_cons_zero]
          refine wpAnyH_take (i := 7) (v := (.pointer (some ⟨X, 0, none⟩))) rfl (by kernel_rfl) (by kernel_rfl) (by kernel_rfl) (fun _ _ _ h => good_panic h) (Or.inl ⟨by kernel_rfl, fun w1 hSw => by clear hHeld; obtain ⟨⟨s0, s1⟩, s2, s3, s4⟩ := hSw; go_simp⟩) hHeld ?_
          try simp only [Act.put]
          try simp only [List.getElem_toArray]
          try simp only [List.getElem_cons_succ]
          try simp only [List.getElem_cons_zero]
          try simp only [List.setIfInBounds_toArray]
          try simp only [List.set_cons_succ, List.set_cons_zero]
          refine wpAnyH_take (i := 8) (v := (.pointer (some ⟨X, 1, none⟩))) rfl (by kernel_rfl) (by kernel_rfl) (by kernel_rfl) (fun _ _ _ h => good_panic h) (Or.inl ⟨by kernel_rfl, fun w1 hSw => by clear hHeld; obtain ⟨⟨s0, s1⟩, s2, s3, s4⟩ := hSw; go_simp⟩) hHeld ?_
          try simp only [Act.put]
          try simp only [List.getElem_toArray]
          try simp only [List.getElem_cons_succ]
          try simp only [List.getElem_cons_zero]
          try simp only [List.setIfInBounds_toArray]
          try simp only [List.set_cons_succ, List.set_cons_zero]
          refine wpAnyH_take (i := 9) (v := (.slice adY L'.length capY)) rfl (by kernel_rfl) (by kernel_rfl) (by kernel_rfl) (fun _ _ _ h => good_panic h) (Or.inl ⟨by kernel_rfl, fun w1 hSw => by clear hHeld; obtain ⟨⟨s0, s1⟩, s2, s3, s4⟩ := hSw; go_simp⟩) hHeld ?_
          try simp only [Act.put]
          try simp only [List.getElem_toArray]
          try simp only [List.getElem_cons_succ]
          try simp only [List.getElem_cons_zero]
          try simp only [List.setIfInBounds_toArray]
          try simp only [List.set_cons_succ, List.set_cons_zero]
          refine wpAnyH_take (i := 10) (v := (.int .i64 (L'.length : Int))) rfl (by kernel_rfl) (by kernel_rfl) (by kernel_rfl) (fun _ _ _ h => good_panic h) (Or.inl ⟨by kernel_rfl, fun w1 hSw => by clear hHeld; obtain ⟨⟨s0, s1⟩, s2, s3, s4⟩ := hSw; go_simp⟩) hHeld ?_
          try simp only [Act.put]
          try simp only [List.getElem_toArray]
          try simp only [List.getElem_cons_succ]
          try simp only [List.getElem_cons_zero]
          try simp only [List.setIfInBounds_toArray]
          try simp only [List.set_cons_succ, List.set_cons_zero]
          refine wpAnyH_take (i := 11) (v := (.bool true)) rfl (by kernel_rfl) (by kernel_rfl) (by kernel_rfl) (fun _ _ _ h => good_panic h) (Or.inl ⟨by kernel_rfl, fun w1 hSw => by clear hHeld; obtain ⟨⟨s0, s1⟩, s2, s3, s4⟩ := hSw; go_simp⟩) hHeld ?_
          try simp only [Act.put]
          try simp only [List.getElem_toArray]
          try simp only [List.getElem_cons_succ]
          try simp only [List.getElem_cons_zero]
          try simp only [List.setIfInBounds_toArray]
          try simp only [List.set_cons_succ, List.set_cons_zero]
          refine wpAnyH_take (i := 12) (v := (.bool true)) rfl (by kernel_rfl) (by kernel_rfl) (by kernel_rfl) (fun _ _ _ h => good_panic h) (Or.inl ⟨by kernel_rfl, fun w1 hSw => by clear hHeld; obtain ⟨⟨s0, s1⟩, s2, s3, s4⟩ := hSw; go_simp⟩) hHeld ?_
          try simp only [Act.put]
          try simp only [List.getElem_toArray]
          try simp only [List.getElem_cons_succ]
          try simp only [List.getElem_cons_zero]
          try simp only [List.setIfInBounds_toArray]
          try simp only [List.set_cons_succ, List.set_cons_zero]
          refine wpAnyH_take (i := 13) (v := (.bool true)) rfl (by kernel_rfl) (by kernel_rfl) (by kernel_rfl) (fun _ _ _ h => good_panic h) (Or.inl ⟨by kernel_rfl, fun w1 hSw => by clear hHeld; obtain ⟨⟨s0, s1⟩, s2, s3, s4⟩ := hSw; go_simp⟩) hHeld ?_
          try simp only [Act.put]
          try simp only [List.getElem_toArray]
          try simp only [List.getElem_cons_succ]
          try simp only [List.getElem_cons_zero]
          try simp only [List.setIfInBounds_toArray]
          try simp only [List.set_cons_succ, List.set_cons_zero]
          refine wpAnyH_ready (rs := [14]) (by kernel_rfl) (by simp) ?_
          refine AllReadyH.cons rfl (fun K hK => ?_) AllReadyH.nil
          go_simp
          refine (fixed_any _).mono ?_
          rintro e w7 ⟨rfl, hb7⟩
          have HR7 := hide (HRD.out.below hb7)
          have HK7 : Hid (w7.heap[D2]? = some (.deferred (some []))) := (hb7.block D2 (lt_of_block HKD.out)).trans HKD.out
          have HX7 : Hid (w7.cell? ⟨X, 1, none⟩ = some (.slice adY L'.length capY)) := (hb7.cell (p := ⟨X, 1, none⟩) (World.block_lt_of_cell? _ _ HX1.out)).trans HX1.out
          have c9 := HR7.out.ra.te.br.cell
          have f9 := HR7.out.ra.te.br.frozen
          clear hb7 HRD HKD HX1
          refine hK.out _ _ (⟨⟨HR7.out.ra.bk.cell, HR7.out.ra.bw.cell⟩, HR7.out.bj.cell, HR7.out.ra.te.bx.cell, HX7.out⟩) (fun hHeld => ?_)
          clear hK K
          try dsimp only
          try simp only [List.getElem_toArray]
          try simp only [List.getElem_cons_succ]
          try simp only [List.getElem_cons_zero]
          try simp only [List.setIfInBounds_toArray]
          try simp only [List.set_cons_succ, List.set_cons_zero]
          refine wpAnyH_take (i := 15) (v := (.bool true)) rfl (by kernel_rfl) (by kernel_rfl) (by kernel_rfl) (fun _ _ _ h => good_panic h) (Or.inl ⟨by kernel_rfl, fun w1 hSw => by clear hHeld; obtain ⟨⟨s0, s1⟩, s2, s3, s4⟩ := hSw; go_simp⟩) hHeld ?_
          try simp only [Act.put]
          try simp only [List.getElem_toArray]
          try simp only [List.getElem_cons_succ]
          try simp only [List.getElem_cons_zero]
          try simp only [List.setIfInBounds_toArray]
          try simp only [List.set_cons_succ, List.set_cons_zero]
          refine wpAnyH_ready (rs := [16]) (by kernel_rfl) (by simp) ?_
          refine AllReadyH.cons rfl (fun K hK => ?_) AllReadyH.nil
          go_simp
          have HQB : Hid (Q ≠ w.heap.size + 1) := fun e => by have h1 := HR7.out.ra.te.bx; rw [e] at h1; have h2 := (show w7.heap[w.heap.size + 1]? = _ from h1).symm.trans HR7.out.ra.te.br; cases h2
          have HXB : Hid ((w7.setCell ⟨w.heap.size + 1, 0, none⟩ (.bool true)).cell? ⟨X, 1, none⟩ = some (.slice adY L'.length capY)) := (World.cell?_of_block (a := ⟨X, 1, none⟩) (Below.heap_setCell w7 ⟨w.heap.size + 1, 0, none⟩ _ X (fun e => box_nex HR7.out.ra.te.br ⟨_, HX7.out⟩ e.symm))).trans HX7.out
          refine hK.out _ _ (⟨⟨(HR7.out.ra.bk.other (by have h1 := HR7.out.ra.gt; have h2 := HR7.out.jn; omega) (.bool true)).cell, (HR7.out.ra.bw.other (by have h1 := HR7.out.ra.gt; have h2 := HR7.out.jn; omega) (.bool true)).cell⟩, (HR7.out.bj.other (by have h1 := HR7.out.ra.gt; have h2 := HR7.out.jn; omega) (.bool true)).cell, (HR7.out.ra.te.bx.other HQB.out (.bool true)).cell, HXB.out⟩) (fun hHeld => ?_)
          clear hK K
          try dsimp only
          try simp only [List.getElem_toArray]
          try simp only [List.getElem_cons_succ]
          try simp only [List.getElem_cons_zero]
          try simp only [List.setIfInBounds_toArray]
          try simp only [List.set_cons_succ, List.set_cons_zero]
          refine wpAnyH_done (by kernel_rfl) ?_ _
          clear hHeld
          refine ⟨rfl, ?_⟩
          try simp only [List.getElem_toArray]
          try simp only [List.getElem_cons_succ]
          try simp only [List.getElem_cons_zero]
          gi_wp2_with fail
          have hbr : Boxed (w7.setCell ⟨w.heap.size + 1, 0, none⟩ (.bool true)) (w.heap.size + 1) 4 (.bool true) := HR7.out.ra.te.br.set _
          have hK7 : (w7.setCell ⟨w.heap.size + 1, 0, none⟩ (.bool true)).heap[D2]? = some (.deferred (some [])) := (KeepsOthers.setCell w7 ⟨w.heap.size + 1, 0, none⟩ (.bool true)).same D2 _ HK7.out rfl
          have hD7 : (w7.setCell ⟨w.heap.size + 1, 0, none⟩ (.bool true)).heap[D]? = some (.deferred (some [])) := (KeepsOthers.setCell w7 ⟨w.heap.size + 1, 0, none⟩ (.bool true)).same D _ HR7.out.dd rfl
          have hlow : Below w.heap.size w (w7.setCell ⟨w.heap.size + 1, 0, none⟩ (.bool true)) := HR7.out.ra.te.low.setCell (p := ⟨w.heap.size + 1, 0, none⟩) (by show w.heap.size ≤ w.heap.size + 1; omega) _
          have hgt := HR7.out.ra.gt
          have hnm := HR7.out.nm
          have hdm := HR7.out.dm
          have hwD : w.heap.size ≤ D := HWD.out
          generalize w7.setCell ⟨w.heap.size + 1, 0, none⟩ (.bool true) = W8 at *
          refine ⟨by simp, .inl ⟨_, _, rfl, run_takeDeferred hK7, ?_⟩⟩
          have hbr2 := box_others hbr (grownBy_putObj' W8 D2 (.deferred none)) (fun r e => by cases e; exact ⟨_, hK7, rfl⟩)
          have hD8 : (W8.putObj D2 (.deferred none)).heap[D]? = some (.deferred (some [])) := (World.putObj_heap_other (fun e => by have e : D = D2 := e; have := HD2.out; omega)).trans hD7
          have hlow2 := hlow.trans (belowK_b (w := w) (Nat.le_refl _) W8 D2 _ (.deferred none) (by have := HD2.out; omega) hK7 rfl rfl)
          generalize W8.putObj D2 (.deferred none) = W9 at *
          refine ⟨by simp, .inl ⟨_, _, rfl, run_takeDeferred hD8, ?_⟩⟩
          have hc5 := (box_others hbr2 (grownBy_putObj' W9 D (.deferred none)) (fun r e => by cases e; exact ⟨_, hD8, rfl⟩)).cell
          refine ⟨.bool true, ?_, rfl, hlow2.trans (belowK_b (w := w) (Nat.le_refl _) W9 D _ (.deferred none) hwD hD8 rfl rfl)⟩
          simp [results, Try.f5, go_sem, hc5]
end Go.Proofs.Ytjpcghkdedldiaa
