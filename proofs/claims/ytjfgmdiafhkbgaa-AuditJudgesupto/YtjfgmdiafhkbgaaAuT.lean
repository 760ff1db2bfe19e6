import Derived.Test.YtjfgmdiafhkbgaaAuK
namespace Go.Proofs.Ytjfgmdiafhkbgaa
open Go.RowKit Go.MapKept
set_option maxRecDepth 8000

section
variable {P : Program} (w : World)
/-- an append to a row of one's own: in its block, or in a new one -/
theorem run_append_two (base : Nat) (t ty e : TypeId) (i : TypeInfo) (z : Value) (size bytes : Nat) (ht : P.underlying t = some (.slice e)) (hi : P.info? e = some i) (hz : i.zero = some z)
    (hsize : i.size = size) (hby : i.bytes = bytes) (hzs : z.cells.size = size) (hsz : 0 < size)
    (v : Value) (n : Nat) (xs : List Value) (hown : w.ownsRow base e size v n xs)
    (a : Addr) (m c : Nat) (news : List Value) (hm : 0 < m) (hl : news.length = m * size) (hnews : ∀ j u, news[j]? = some u → w.cell? (a.add j) = some u) (h1 : ∀ u ∈ news, u.oneCell' = true)
    (h63 : n + m ≤ maxLen) (hbytes : ((n + m) + (n + m) / 4 + 192) * bytes ≤ 281474976710656) (hbase : base ≤ w.heap.size) :
    ∃ v' w', (Builtin.append_ #[t, t] ty #[v, .slice (some a) m c]).run P w = .ok v' w' ∧ w'.ownsRow base e size v' (n + m) (xs ++ news) ∧ w.grownBy w' v.ownBlock ∧
      (v'.ownBlock = v.ownBlock ∨ (v'.ownBlock = some w.heap.size ∧ w.grownBy w' none)) := by
  obtain ⟨v', w', hr, h2, h3, _⟩ := run_append_own_wide (P := P) w base t ty e i z size bytes ht hi hz hsize hby hzs hsz v n xs hown a m c news hl hnews h1 h63 hbytes hbase
  refine ⟨v', w', hr, h2, h3, ?_⟩
  have hsmall : n + m ≤ 9223372036854775807 := by simp only [maxLen] at h63; omega
  rcases hown.2 with ⟨rfl, rfl⟩ | ⟨g, cap, cur, rfl, hbg, hg, hnc, hcm, hcs, htake⟩
  · obtain ⟨v2, w2, hr2, h4, h5, _⟩ := run_append_own_wide (P := P) w w.heap.size t ty e i z size bytes ht hi hz hsize hby hzs hsz (.slice none 0 0) 0 [] (World.ownsRow_nil _ _ _ _) a m c news hl hnews h1 h63 hbytes (Nat.le_refl _)
    rw [hr] at hr2
    injection hr2 with e1 e2
    subst e1; subst e2
    subst hsize; subst hby
    have hr3 := run_append_nil (P := P) w t ty e i z ht hi hz a m c news hl hnews (by omega) (by omega) (by have hb := hbytes; simp only [Nat.zero_add] at hb; exact Nat.le_trans (Nat.mul_le_mul_right _ (by omega)) hb)
    rw [hr] at hr3
    injection hr3 with e1 e2
    exact .inr ⟨by rw [e1]; rfl, h5⟩
  · subst hsize; subst hby
    by_cases hroom : n + m ≤ cap
    · have hfit : n * i.size + news.length ≤ cur.size := by rw [hl, hcs, ← Nat.add_mul]; exact Nat.mul_le_mul_right _ hroom
      have hr2 := run_append_room (P := P) w t ty e i ht hi g n cap cur hg a m c news hl hnews h1 hroom hfit
      rw [hr] at hr2
      injection hr2 with e1 e2
      exact .inl (by rw [e1]; rfl)
    · have holds : ∀ j u, xs[j]? = some u → w.cell? ((⟨g, 0, none⟩ : Addr).add j) = some u := hown.cells (g := g) rfl
      have hr2 := run_append_grow (P := P) w t ty e i z ht hi hz ⟨g, 0, none⟩ n cap xs hown.1 holds a m c news hl hnews (by omega) (by omega) (growslice_fits_wide (by omega) hbytes)
      rw [hr] at hr2
      injection hr2 with e1 e2
      refine .inr ⟨by rw [e1]; rfl, ?_⟩
      rw [e2]
      exact ⟨rfl, rfl, rfl, by simp, fun k hk _ => (MapKept.heap_alloc w.drew _).2 k hk⟩
end

section
variable {P : Program} {w : World}
/-- an append of nothing -/
theorem run_append_zero (base : Nat) (t ty e : TypeId) (i : TypeInfo) (size : Nat) (ht : P.underlying t = some (.slice e)) (hi : P.info? e = some i)
    (v : Value) (n : Nat) (xs : List Value) (hown : w.ownsRow base e size v n xs) (q : Option Addr) (c : Nat) :
    (Builtin.append_ #[t, t] ty #[v, .slice q 0 c]).run P w = .ok v w := by
  cases q with
  | none =>
    rcases hown.2 with ⟨rfl, rfl⟩ | ⟨g, cap, cur, rfl, _, _, hnc, _⟩
    · simp [Builtin.append_, run_underlying ht, sizeOf, typeInfo, hi, Builtin.lenOf, Builtin.firstCells]
    · simp [Builtin.append_, run_underlying ht, sizeOf, typeInfo, hi, Builtin.lenOf, Builtin.firstCells, hnc, storeCells]
  | some a =>
    have hf := run_firstCells_some (P := P) w i.size 0 a 0 c [] (by simp) (fun j v h => by simp at h)
    rcases hown.2 with ⟨rfl, rfl⟩ | ⟨g, cap, cur, rfl, _, _, hnc, _⟩
    · simp [Builtin.append_, run_underlying ht, sizeOf, typeInfo, hi, Builtin.lenOf, hf]
    · simp [Builtin.append_, run_underlying ht, sizeOf, typeInfo, hi, Builtin.lenOf, hf, hnc, storeCells]
theorem step_append_run {ops : Array Oper} {o : Oper} {a : Act} {K : Act → World → Prop} {Q : Exit → Act → World → Prop} {E : Prop} (hgd : o.guard = none) (s x : Operand) (t : TypeId)
    (ho : o.op = .call { callee := .builtin .append, args := #[s, x], argTypes := #[t, t] }) {v xv v' : Value} {w' : World} (hs : a.eval s = v) (hx : a.eval x = xv) (hr : (Builtin.append_ #[t, t] o.type #[v, xv]).run P w = .ok v' w') (h : K (a.put o.dst v') w') :
    if Region.wanted o (yielded ops a.tmps) = true then Oper.wp P o a w K Q else E := by
  have hw : Region.wanted o (yielded ops a.tmps) = true := by simp [Region.wanted, hgd]
  rw [if_pos hw]
  unfold Oper.wp execOp
  simp only [ho, resolve, invoke, builtin, Sem.run_bind, Sem.run_pure, Result.andThen_ok, List.map_toArray, List.map_cons, List.map_nil, hs, hx, hr]
  exact h
end
/-- texts behind texts -/
theorem run_app {w : World} {B : Nat} {v : Value} {m l : List ByteArray} {q : Option Addr} {c : Nat} (hown : w.ownsRow B 9 1 v m.length (tcs m)) (hx : Tx w (.slice q l.length c) l) (hl : l.length ≤ 1048576) (hm : m.length ≤ 1099511627776) (hB : B ≤ w.heap.size) :
    ∃ v' w', (Builtin.append_ #[41, 41] 41 #[v, .slice q l.length c]).run Try.prog w = .ok v' w' ∧ w'.ownsRow B 9 1 v' (m.length + l.length) (tcs (m ++ l)) ∧ w.grownBy w' v.ownBlock ∧ (v'.ownBlock = v.ownBlock ∨ v'.ownBlock = some w.heap.size) := by
  obtain ⟨i0, hi0, hz0, hz1, hz2⟩ := info_parts Try.infoSt
  by_cases h0 : l.length = 0
  · have hl0 : l = [] := List.length_eq_zero_iff.1 h0
    subst hl0
    refine ⟨v, w, run_append_zero B 41 41 9 i0 1 Try.underlying41 hi0 v _ _ hown q c, by simpa using hown, grown_refl _ _, .inl rfl⟩
  · obtain ⟨b0, off, rfl, _, hc⟩ := hx.at (by omega)
    obtain ⟨v', w', h1, h2, h3, h4⟩ := run_append_two (P := Try.prog) w B 41 41 9 i0 (.string ByteArray.empty) 1 16 Try.underlying41 hi0 hz0 hz1 hz2 rfl (by decide) v m.length (tcs m) hown ⟨b0, off, none⟩ l.length c (tcs l) (by omega) (tcs_len l) (fun j u hu => by
      obtain ⟨hj, rfl⟩ := tcs_get hu
      rw [Addr.add_lit]
      exact hc j hj) (tcs_ones l) (by unfold maxLen; omega) (by omega) hB
    exact ⟨v', w', h1, by rw [tcs_append]; exact h2, h3, h4.imp id (fun h => h.1)⟩
section
variable {w w' : World} {B b : Nat} {h : Hs} {s : Hi} {i : Nat}
set_option maxHeartbeats 8000000 in
theorem stored_any (H : Hm w B b h s) (hi8 : i < 8) (ek eo en el : Int) (eb ei ec es er ew : Int) (ex : ByteArray) {et : List ByteArray} {q : Option Addr} {cq : Nat} (hv : Tx w (.slice q et.length cq) et) (he : et.length ≤ 1048576) (hlg : ∀ j ∈ h.jobs, j.lg.length ≤ 1099511627776) :
    Calls Try.prog 39 #[.pointer (some ⟨b, 0, none⟩), .agg #[.int .i64 ek, .int .i64 eo, .int .i64 en, .int .i64 el, .int .i64 ((i : Int) + 1), .int .i64 eb, .int .i64 ei, .int .i64 ec, .int .i64 es, .int .i64 er, .int .u64 ew, .string ex, .slice q et.length cq]] w fun r w' => r = .returned (.tuple #[]) ∧ (∃ s', Hm w' B b (if hld h i eb = true then { h with jobs := h.jobs.set i { jat h i with lg := (jat h i).lg ++ et } } else h) s') ∧ Kt B w w' := by
  have hBa := below_alloc w (.cells #[.int .i64 ek, .int .i64 eo, .int .i64 en, .int .i64 el, .int .i64 ((i : Int) + 1), .int .i64 eb, .int .i64 ei, .int .i64 ec, .int .i64 es, .int .i64 er, .int .u64 ew, .string ex, .slice q et.length cq] 43)
  have hbk := heap_alloc_new w (.cells #[.int .i64 ek, .int .i64 eo, .int .i64 en, .int .i64 el, .int .i64 ((i : Int) + 1), .int .i64 eb, .int .i64 ei, .int .i64 ec, .int .i64 es, .int .i64 er, .int .u64 ew, .string ex, .slice q et.length cq] 43)
  have H1 := H.below hBa
  have H0 := hide H
  have HH1 := hide H1
  have HBa := hide hBa
  have HBK := hide hbk
  have l8 := H.l8
  have i8 : (i : Int) < 8 := by omega
  have HN := hide (held_any H1 i eb)
  have HV := hide hv
  clear H H1 hBa hbk hv
  cases hn : hld h i eb with
  | false =>
    rw [hn] at HN
    rw [if_neg (by decide)]
    clear hn hlg
    go_enter Try.func39, Try.ntmps39
    go_wp2_with fail
    refine HN.out.mono ?_
    rintro e w1 ⟨rfl, hb⟩
    have HB1 := hide hb
    have H2 := HH1.out.below hb
    have HH2 := hide H2
    have HK1 := hide (Kt.of_below (B := B) (below_of HBa.out hb))
    have ce := (hb.block _ (lt_of_block HBK.out)).trans HBK.out
    clear hb H2 ce
    go_wp2_with fail
    go_end0
    exact ⟨rfl, ⟨_, HH2.out⟩, HK1.out⟩
  | true =>
    rw [hn] at HN
    rw [if_pos rfl]
    have hi := hld_lt hn
    have ii : (i : Int) < (h.jobs.length : Int) := by omega
    have HI := hide hi
    have hjl : (jat h i).lg.length ≤ 1099511627776 := hlg _ (by
      unfold jat
      rw [getElem!_pos h.jobs i hi]
      exact List.getElem_mem hi)
    have HJL := hide hjl
    have HBB : Hid (B ≤ w.heap.size) := hide (Nat.le_of_lt (Nat.lt_of_le_of_lt H0.out.lo.1 H0.out.lt))
    have HNJ := hide H0.out.len
    obtain ⟨ad, cap, hjv⟩ := H0.out.form
    obtain ⟨g, rfl⟩ := H0.out.grow hjv hi
    have hgl : g < w.heap.size := (H0.out.row.lt g (by rw [hjv]; rfl)).2
    have hg1 : ¬ (g = w.heap.size) := by omega
    have hg2 : ¬ (w.heap.size = g) := by omega
    clear hn hi hlg hjl
    go_enter Try.func39, Try.ntmps39
    go_wp2_with fail
    refine HN.out.mono ?_
    rintro e w1 ⟨rfl, hb⟩
    have HB1 := hide hb
    have H2 := HH1.out.below hb
    have HH2 := hide H2
    have HK1 := hide (Kt.of_below (B := B) (below_of HBa.out hb))
    have ce := (hb.block _ (lt_of_block HBK.out)).trans HBK.out
    have x4 : w1.cell? ⟨w.heap.size, 4, none⟩ = some (.int .i64 ((i : Int) + 1)) := by simp [World.cell?, ce]
    have x12 : w1.cell? ⟨w.heap.size, 12, none⟩ = some (.slice q et.length cq) := by simp [World.cell?, ce]
    have c0 := H2.c0 hjv
    obtain ⟨v0, hL, _, _, _, _, k4⟩ := H2.at hjv HI.out
    have HL := hide hL
    have hOl := H2.logs _ (List.mem_of_getElem? hL)
    dsimp only at hOl
    obtain ⟨la, lc, hlv⟩ := own_slice hOl
    subst hlv
    have HW2 := hide (H2.below (Below.refl w1.heap.size w1).drew.drew)
    have hOl2 := own_keep (w' := w1.drew.drew) hOl fun k e => rfl
    have hBl : B ≤ (w1.drew.drew).heap.size := Nat.le_trans HBB.out (below_of HBa.out hb).size
    obtain ⟨vn, Wa, hrun, hown, hgrow, htwo⟩ := run_app hOl2 ((HV.out.below (below_of HBa.out hb)).below (Below.refl w1.heap.size w1).drew.drew) he HJL.out hBl
    obtain ⟨na, nc, hvn⟩ := own_slice hown
    subst hvn
    have hgc := own_type HW2.out.row g (by rw [hjv]; rfl)
    obtain ⟨gc, hgc⟩ := hgc
    have hgx : ∀ k, (Value.slice la (jat h i).lg.length lc).ownBlock = some k → k ≠ g := fun k e e2 => own_apart hOl2 HW2.out.row (by decide) k e (by rw [hjv, e2]; rfl)
    have hge : Wa.heap[g]? = (w1.drew.drew).heap[g]? := hgrow.block g (lt_of_block hgc) (fun e => hgx g e.symm rfl)
    have hxe : (w1.drew.drew).heap[w.heap.size]? = some (.cells #[.int .i64 ek, .int .i64 eo, .int .i64 en, .int .i64 el, .int .i64 ((i : Int) + 1), .int .i64 eb, .int .i64 ei, .int .i64 ec, .int .i64 es, .int .i64 er, .int .u64 ew, .string ex, .slice q et.length cq] 43 (0, 0)) := ce
    have hxne : ∀ k, (Value.slice la (jat h i).lg.length lc).ownBlock = some k → k ≠ w.heap.size := fun k e e2 => by
      obtain ⟨c, hc⟩ := own_type hOl2 k e
      rw [e2, hxe] at hc
      injection hc with hc
      injection hc with _ hc
      exact absurd hc (by decide)
    have hxa : Wa.heap[w.heap.size]? = some (.cells #[.int .i64 ek, .int .i64 eo, .int .i64 en, .int .i64 el, .int .i64 ((i : Int) + 1), .int .i64 eb, .int .i64 ei, .int .i64 ec, .int .i64 es, .int .i64 er, .int .u64 ew, .string ex, .slice q et.length cq] 43 (0, 0)) := (hgrow.block _ (lt_of_block hxe) (fun e => hxne _ e.symm rfl)).trans hxe
    have hrow : (Wa.setCell ⟨g, i * 5 + 4, none⟩ (.slice na ((jat h i).lg.length + et.length) nc)).ownsRow B 87 5 s.jv s.L.length (jcs (s.L.set i ({ jat h i with lg := (jat h i).lg ++ et }, .slice na ((jat h i).lg.length + et.length) nc))) := by
      have hr := own_keep (w' := Wa) HW2.out.row fun k e => by
        rw [hjv] at e
        cases e
        exact hge
      obtain ⟨ad2, cap2, hv2⟩ := own_slice hr
      rw [hjv] at hv2
      injection hv2 with e1 e2 e3
      subst e1; subst e3
      rw [hjv, ← HNJ.out] at hr
      have hs2 := (hr.stored (i * 5 + 4) (.slice na ((jat h i).lg.length + et.length) nc)).1
      rw [jcs_set _ _ 4 _ ({ jat h i with lg := (jat h i).lg ++ et }, .slice na ((jat h i).lg.length + et.length) nc) _ hL (by decide) rfl] at hs2
      rw [hjv, ← HNJ.out]
      exact hs2
    have hlen : (jat h i).lg.length + et.length = ((jat h i).lg ++ et).length := by rw [List.length_append]
    have HF := hide (HW2.out.put (w2 := Wa.setCell ⟨g, i * 5 + 4, none⟩ (.slice na ((jat h i).lg.length + et.length) nc)) (j := { jat h i with lg := (jat h i).lg ++ et }) (lv := .slice na ((jat h i).lg.length + et.length) nc) hL hjv hgrow (fun k e => e) (grown_set Wa g (i * 5 + 4) _) hrow (by dsimp only; rw [← hlen]; exact hown) (fun m x hm he2 k e1 e2 => by
      have hlx := (H2.logs x (List.mem_of_getElem? he2)).lt k e2
      rcases htwo with h5 | h5
      · have h6 := h5.symm.trans e1
        have hp := List.pairwise_iff_getElem.1 H2.apart
        have hl1 := (List.getElem?_eq_some_iff.1 hL).1
        have hl2 := (List.getElem?_eq_some_iff.1 he2).1
        have g1 := (List.getElem?_eq_some_iff.1 hL).2
        have g2 := (List.getElem?_eq_some_iff.1 he2).2
        rcases Nat.lt_or_gt_of_ne hm with h7 | h7
        · have := hp m i hl2 hl1 h7 k
          rw [g1, g2] at this
          exact this e2 h6
        · have := hp i m hl1 hl2 h7 k
          rw [g1, g2] at this
          exact this h6 e2
      · rw [e1] at h5
        injection h5 with h5
        have h8 : k = w1.heap.size := h5
        omega))
    have HZa : Hid (Wa.frozen? ⟨g, i * 5 + 4, none⟩ = false) := hide (by simp [World.frozen?, hge.trans hgc])
    have k4a : Wa.cell? ⟨g, i * 5 + 4, none⟩ = some (.slice la (jat h i).lg.length lc) := (World.cell?_of_block (w := w1.drew.drew) (a := ⟨g, i * 5 + 4, none⟩) hge).trans k4
    generalize hN : (jat h i).lg.length = N at *
    have HS0 : Hid ((fun V => V.heap[w.heap.size]? = some (.cells #[.int .i64 ek, .int .i64 eo, .int .i64 en, .int .i64 el, .int .i64 ((i : Int) + 1), .int .i64 eb, .int .i64 ei, .int .i64 ec, .int .i64 es, .int .i64 er, .int .u64 ew, .string ex, .slice q et.length cq] 43 (0, 0))) (w1.drew.drew)) := hide hxe
    have HSa : Hid ((fun V => V.heap[w.heap.size]? = some (.cells #[.int .i64 ek, .int .i64 eo, .int .i64 en, .int .i64 el, .int .i64 ((i : Int) + 1), .int .i64 eb, .int .i64 ei, .int .i64 ec, .int .i64 es, .int .i64 er, .int .u64 ew, .string ex, .slice q et.length cq] 43 (0, 0))) Wa) := hide hxa
    have HRun := hide hrun
    have HCe : Hid (∀ w' : World, (fun V => V.heap[w.heap.size]? = some (.cells #[.int .i64 ek, .int .i64 eo, .int .i64 en, .int .i64 el, .int .i64 ((i : Int) + 1), .int .i64 eb, .int .i64 ei, .int .i64 ec, .int .i64 es, .int .i64 er, .int .u64 ew, .string ex, .slice q et.length cq] 43 (0, 0))) w' → w'.cell? ⟨w.heap.size, 12, none⟩ = some (.slice q et.length cq)) := hide fun w' hw => by simp [World.cell?, hw]
    have HKa := hide k4a
    have HSb : Hid ((fun V => V.heap[w.heap.size]? = some (.cells #[.int .i64 ek, .int .i64 eo, .int .i64 en, .int .i64 el, .int .i64 ((i : Int) + 1), .int .i64 eb, .int .i64 ei, .int .i64 ec, .int .i64 es, .int .i64 er, .int .u64 ew, .string ex, .slice q et.length cq] 43 (0, 0))) (Wa.setCell ⟨g, i * 5 + 4, none⟩ (.slice na (N + et.length) nc))) := hide ((Below.heap_setCell Wa ⟨g, i * 5 + 4, none⟩ _ w.heap.size (show w.heap.size ≠ g from hg2)).trans hxa)
    have z4 := H2.z5 hjv (i * 5 + 4)
    clear hb H2 ce hL hOl hOl2 hBl hrun hown hgrow htwo hgc hgx hge hxe hxne hxa hrow hlen k4a
    go_wp2_with fail
    go_region
    go_wp2_with fail
    refine wp_region_held_drew (S := fun V => V.heap[w.heap.size]? = some (.cells #[.int .i64 ek, .int .i64 eo, .int .i64 en, .int .i64 el, .int .i64 ((i : Int) + 1), .int .i64 eb, .int .i64 ei, .int .i64 ec, .int .i64 es, .int .i64 er, .int .u64 ew, .string ex, .slice q et.length cq] 43 (0, 0))) (by kernel_rfl) (HS0.out) (fun hHeld => ?_)
    refine wpAnyH_take (i := 0) (v := .pointer (some ⟨g, i * 5, none⟩)) rfl (by kernel_rfl) (by kernel_rfl) (by kernel_rfl) (fun _ _ _ h => h) (Or.inl ⟨by kernel_rfl, fun w1 hSw => by clear hHeld; have f1 := HCe.out _ hSw; go_simp⟩) hHeld ?_
    try simp only [Act.put]
    try simp only [List.getElem_toArray]
    try simp only [List.getElem_cons_succ]
    try simp only [List.getElem_cons_zero]
    try simp only [List.setIfInBounds_toArray]
    try simp only [List.set_cons_succ, List.set_cons_zero]
    refine wpAnyH_take (i := 1) (v := .pointer (some ⟨g, i * 5, none⟩)) rfl (by kernel_rfl) (by kernel_rfl) (by kernel_rfl) (fun _ _ _ h => h) (Or.inl ⟨by kernel_rfl, fun w1 hSw => by clear hHeld; have f1 := HCe.out _ hSw; go_simp⟩) hHeld ?_
    try simp only [Act.put]
    try simp only [List.getElem_toArray]
    try simp only [List.getElem_cons_succ]
    try simp only [List.getElem_cons_zero]
    try simp only [List.setIfInBounds_toArray]
    try simp only [List.set_cons_succ, List.set_cons_zero]
    refine wpAnyH_take (i := 2) (v := .pointer (some ⟨g, i * 5, none⟩)) rfl (by kernel_rfl) (by kernel_rfl) (by kernel_rfl) (fun _ _ _ h => h) (Or.inl ⟨by kernel_rfl, fun w1 hSw => by clear hHeld; have f1 := HCe.out _ hSw; go_simp⟩) hHeld ?_
    try simp only [Act.put]
    try simp only [List.getElem_toArray]
    try simp only [List.getElem_cons_succ]
    try simp only [List.getElem_cons_zero]
    try simp only [List.setIfInBounds_toArray]
    try simp only [List.set_cons_succ, List.set_cons_zero]
    refine wpAnyH_take (i := 3) (v := .pointer (some ⟨g, i * 5 + 4, none⟩)) rfl (by kernel_rfl) (by kernel_rfl) (by kernel_rfl) (fun _ _ _ h => h) (Or.inl ⟨by kernel_rfl, fun w1 hSw => by clear hHeld; have f1 := HCe.out _ hSw; go_simp⟩) hHeld ?_
    try simp only [Act.put]
    try simp only [List.getElem_toArray]
    try simp only [List.getElem_cons_succ]
    try simp only [List.getElem_cons_zero]
    try simp only [List.setIfInBounds_toArray]
    try simp only [List.set_cons_succ, List.set_cons_zero]
    refine wpAnyH_take (i := 5) (v := .pointer (some ⟨w.heap.size, 12, none⟩)) rfl (by kernel_rfl) (by kernel_rfl) (by kernel_rfl) (fun _ _ _ h => h) (Or.inl ⟨by kernel_rfl, fun w1 hSw => by clear hHeld; have f1 := HCe.out _ hSw; go_simp⟩) hHeld ?_
    try simp only [Act.put]
    try simp only [List.getElem_toArray]
    try simp only [List.getElem_cons_succ]
    try simp only [List.getElem_cons_zero]
    try simp only [List.setIfInBounds_toArray]
    try simp only [List.set_cons_succ, List.set_cons_zero]
    refine wpAnyH_take (i := 6) (v := .slice q et.length cq) rfl (by kernel_rfl) (by kernel_rfl) (by kernel_rfl) (fun _ _ _ h => h) (Or.inl ⟨by kernel_rfl, fun w1 hSw => by clear hHeld; have f1 := HCe.out _ hSw; go_simp⟩) hHeld ?_
    try simp only [Act.put]
    try simp only [List.getElem_toArray]
    try simp only [List.getElem_cons_succ]
    try simp only [List.getElem_cons_zero]
    try simp only [List.setIfInBounds_toArray]
    try simp only [List.set_cons_succ, List.set_cons_zero]
    refine wpAnyH_ready (rs := [4]) (by kernel_rfl) (by simp) ?_
    refine AllReadyH.cons rfl (fun K hK => ?_) AllReadyH.nil
    clear hHeld
    go_simp
    refine hK.out _ _ (HS0.out) (fun hHeld => ?_)
    clear hK K
    try simp only [Act.put]
    try simp only [List.getElem_toArray]
    try simp only [List.getElem_cons_succ]
    try simp only [List.getElem_cons_zero]
    try simp only [List.setIfInBounds_toArray]
    try simp only [List.set_cons_succ, List.set_cons_zero]
    refine wpAnyH_ready (rs := [7]) (by kernel_rfl) (by simp) ?_
    refine AllReadyH.cons rfl (fun K hK => ?_) AllReadyH.nil
    refine step_append_run rfl (.tmp 23) (.tmp 25) 41 rfl rfl rfl HRun.out ?_
    refine hK.out _ _ (HSa.out) (fun hHeld => ?_)
    clear hK K
    try simp only [Act.put]
    try simp only [List.getElem_toArray]
    try simp only [List.getElem_cons_succ]
    try simp only [List.getElem_cons_zero]
    try simp only [List.setIfInBounds_toArray]
    try simp only [List.set_cons_succ, List.set_cons_zero]
    refine wpAnyH_take (i := 8) (v := .pointer (some ⟨g, i * 5, none⟩)) rfl (by kernel_rfl) (by kernel_rfl) (by kernel_rfl) (fun _ _ _ h => h) (Or.inl ⟨by kernel_rfl, fun w1 hSw => by clear hHeld; have f1 := HCe.out _ hSw; go_simp⟩) hHeld ?_
    try simp only [Act.put]
    try simp only [List.getElem_toArray]
    try simp only [List.getElem_cons_succ]
    try simp only [List.getElem_cons_zero]
    try simp only [List.setIfInBounds_toArray]
    try simp only [List.set_cons_succ, List.set_cons_zero]
    refine wpAnyH_take (i := 9) (v := .pointer (some ⟨g, i * 5 + 4, none⟩)) rfl (by kernel_rfl) (by kernel_rfl) (by kernel_rfl) (fun _ _ _ h => h) (Or.inl ⟨by kernel_rfl, fun w1 hSw => by clear hHeld; have f1 := HCe.out _ hSw; go_simp⟩) hHeld ?_
    try simp only [Act.put]
    try simp only [List.getElem_toArray]
    try simp only [List.getElem_cons_succ]
    try simp only [List.getElem_cons_zero]
    try simp only [List.setIfInBounds_toArray]
    try simp only [List.set_cons_succ, List.set_cons_zero]
    refine wpAnyH_ready (rs := [10]) (by kernel_rfl) (by simp) ?_
    refine AllReadyH.cons rfl (fun K hK => ?_) AllReadyH.nil
    have sz := HZa.out
    have sc := HKa.out
    clear hHeld
    go_simp
    refine hK.out _ _ (HSb.out) (fun hHeld => ?_)
    clear hK K
    try simp only [Act.put]
    try simp only [List.getElem_toArray]
    try simp only [List.getElem_cons_succ]
    try simp only [List.getElem_cons_zero]
    try simp only [List.setIfInBounds_toArray]
    try simp only [List.set_cons_succ, List.set_cons_zero]
    refine wpAnyH_done (by kernel_rfl) ?_ _
    go_wp2_with fail
    go_end0
    exact ⟨rfl, ⟨_, HF.out.1⟩, (HK1.out.below (Below.refl _ _).drew.drew).trans HF.out.2⟩
end
end Go.Proofs.Ytjfgmdiafhkbgaa
