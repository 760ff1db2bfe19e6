import Derived.Test.YtapcmmljdpallaaSkD
namespace Go.Proofs.Ytapcmmljdpallaa.K
open Go.RowKit Go.MapKept
set_option maxRecDepth 8000

section
variable {P : Program} {w : World}
theorem wpList_append_two {ops : Array Oper} {rest : List Oper} {o : Oper} {a : Act} {Q : Exit → Act → World → Prop} (hgd : o.guard = none) (s x : Operand) (t : TypeId)
    (ho : o.op = .call { callee := .builtin .append, args := #[s, x], argTypes := #[t, t] })
    (base : Nat) (e : TypeId) (i : TypeInfo) (z : Value) (size bytes : Nat) (ht : P.underlying t = some (.slice e)) (hi : P.info? e = some i) (hz : i.zero = some z)
    (hsize : i.size = size) (hby : i.bytes = bytes) (hzs : z.cells.size = size) (hsz : 0 < size)
    (v : Value) (n : Nat) (xs : List Value) (hs : a.eval s = v) (hown : w.ownsRow base e size v n xs)
    (ad : Addr) (m c : Nat) (news : List Value) (hm : 0 < m) (hx : a.eval x = .slice (some ad) m c) (hl : news.length = m * size) (hnews : ∀ j u, news[j]? = some u → w.cell? (ad.add j) = some u) (h1 : ∀ u ∈ news, u.oneCell' = true)
    (h63 : n + m ≤ maxLen) (hbytes : (n + m) * bytes ≤ 140737488355328) (hbase : base ≤ w.heap.size)
    (h : ∀ v' w', w'.ownsRow base e size v' (n + m) (xs ++ news) → w.grownBy w' v.ownBlock → (v'.ownBlock = v.ownBlock ∨ (v'.ownBlock = some w.heap.size ∧ w.grownBy w' none)) → wpList P ops Q rest (a.put o.dst v') w') : wpList P ops Q (o :: rest) a w :=
  wpList_plain hgd fun K hK => by
    obtain ⟨v', w', hr, h2, h3, h4⟩ := run_append_two (P := P) w base t o.type e i z size bytes ht hi hz hsize hby hzs hsz v n xs hown ad m c news hm hl hnews h1 h63 hbytes hbase
    unfold Oper.wp execOp
    simp only [ho, resolve, invoke, builtin, Sem.run_bind, Sem.run_pure, Result.andThen_ok, List.map_toArray, List.map_cons, List.map_nil, hs, hx, hr]
    exact hK _ _ (h v' w' h2 h3 h4)
end
section
variable {w w' w1 : World} {b m : Nat} {A : List Az} {tv tv' : Value} {T T' : List Ev} {j : Int}
theorem Lm.drew (h : Lm w m A) : Lm w.drew m A := h.keep rfl
theorem Sb.store (h : Sb w b m A tv T j) {x : Az} (hj : x.job = j) (hok : 1 ≤ x.job ∧ x.job ≤ 8 ∧ 1 ≤ x.bdg ∧ x.bdg ≤ 1099511627776 ∧ x.pcs.length ≤ 16) (ho : w.ownsRow 0 9 1 x.sl x.pcs.length (tcs x.pcs))
    (hap : ∀ y ∈ A, y.job ≠ j → ∀ k, x.sl.ownBlock = some k → y.sl.ownBlock ≠ some k) (hm : Lm w' m (put x A)) (hg : w.grownBy w' (some m)) : Sb w' b m (put x A) tv T 0 := by
  subst hj
  have hk : ∀ {e : TypeId} {size n base : Nat} {v : Value} {xs : List Value}, w.ownsRow base e size v n xs → e ≠ 57 → w'.ownsRow base e size v n xs := fun ho hne => own_keep ho fun k e => hg.block k ((ho.lt k e).2) (fun e2 => (h.row_ne ho hne k e).2 (by cases e2; rfl))
  refine ⟨(hg.block b (lt_blk h.blk) (fun e => h.bm (by cases e; rfl))).trans h.blk, hm, hk h.told (by decide), fun y hy _ => ?_, fun y hy z hz _ _ hyz k hk1 => ?_, fun y hy => ?_⟩
  · rcases mem_put.1 hy with rfl | ⟨hy, hne⟩
    · exact hk ho (by decide)
    · exact hk (h.pcs y hy hne) (by decide)
  · rcases mem_put.1 hy with e1 | ⟨hy1, hne⟩
    · rcases mem_put.1 hz with e2 | ⟨hz1, hne2⟩
      · exact absurd (by rw [e1, e2]) hyz
      · exact hap z hz1 hne2 k (by rw [← e1]; exact hk1)
    · rcases mem_put.1 hz with e2 | ⟨hz1, hne2⟩
      · exact fun e => hap y hy1 hne k (by rw [← e2]; exact e) hk1
      · exact h.apart y hy1 z hz1 hne hne2 hyz k hk1
  · rcases mem_put.1 hy with rfl | ⟨hy, _⟩
    · exact hok
    · exact h.ok y hy
theorem Sb.z4 (h : Sb w b m A tv T j) (hg : w.grownBy w1 tv.ownBlock) (k : Nat) : w1.frozen? ⟨b, k, none⟩ = false ∧ w1.cell? ⟨b, 1, none⟩ = some tv := by
  have hb1 : w1.heap[b]? = w.heap[b]? := hg.block b (lt_blk h.blk) fun e => (h.row_ne h.told (by decide) b e.symm).1 rfl
  simp [World.frozen?, World.cell?, hb1.trans h.blk]
theorem Sb.tell (h : Sb w b m A tv T 0) (hg : w.grownBy w1 tv.ownBlock) (ho : w1.ownsRow 0 45 13 tv' T'.length (ecs T')) : Sb (w1.setCell ⟨b, 1, none⟩ tv') b m A tv' T' 0 := by
  have hbl := lt_blk h.blk
  have hb1 : w1.heap[b]? = w.heap[b]? := hg.block b hbl fun e => (h.row_ne h.told (by decide) b e.symm).1 rfl
  have hm1 : w1.heap[m]? = w.heap[m]? := hg.block m h.map.lt fun e => (h.row_ne h.told (by decide) m e.symm).2 rfl
  have hset : ∀ k, k ≠ b → (w1.setCell ⟨b, 1, none⟩ tv').heap[k]? = w1.heap[k]? := fun k hk => by simp [World.setCell, Array.getElem?_modify, Ne.symm hk]
  have hp1 : ∀ y ∈ A, y.job ≠ 0 → w1.ownsRow 0 9 1 y.sl y.pcs.length (tcs y.pcs) := fun y hy hj => own_keep (h.pcs y hy hj) fun k e => hg.block k (((h.pcs y hy hj).lt k e).2) (fun e2 => own_apart (h.pcs y hy hj) h.told (by decide) k e e2.symm)
  have hkb : ∀ {e : TypeId} {size n base : Nat} {v : Value} {xs : List Value}, w1.ownsRow base e size v n xs → e ≠ 57 → (w1.setCell ⟨b, 1, none⟩ tv').ownsRow base e size v n xs := fun ho hne => own_keep ho fun k e => hset k fun e1 => by
    obtain ⟨c, hc⟩ := own_type ho k e
    rw [e1, hb1, h.blk] at hc
    injection hc with hc
    injection hc with _ hc
    exact hne hc.symm
  refine ⟨?_, h.map.keep ((hset m (Ne.symm h.bm)).trans hm1), hkb ho (by decide), fun y hy hj => hkb (hp1 y hy hj) (by decide), h.apart, h.ok⟩
  have := hb1.trans h.blk
  simp only [World.setCell, Array.getElem?_modify]
  rw [this]
  simp
end
/-- behind an admission -/
def AdP (b m : Nat) (A : List Az) (tv : Value) (T : List Ev) (job bdg idx : Int) (t : ByteArray) (ps : List ByteArray) (w w' : World) : Prop :=
  ∃ x tv', x.job = job ∧ x.bdg = bdg ∧ x.pcs = ps ∧ Sb w' b m (put x A) tv' (T ++ [⟨job, bdg, idx, t⟩]) 0 ∧ Mv (Ft b m A tv 0) w w' ∧ ∀ k, Ft b m (put x A) tv' 0 k → Ft b m A tv 0 k ∨ w.heap.size ≤ k

set_option maxHeartbeats 4000000 in
theorem admit_zero {w : World} {b m : Nat} {A : List Az} {tv : Value} {T : List Ev} (h : Sb w b m A tv T 0) {job bdg : Int} (hj : 1 ≤ job ∧ job ≤ 8) (hb : 1 ≤ bdg ∧ bdg ≤ 1099511627776) (hT : T.length ≤ 1000000000) (t : ByteArray) :
    Calls Try.prog 18 #[.pointer (some ⟨b, 0, none⟩), .int .i64 job, .int .i64 bdg, .int .i64 0, .string t] w fun e w' => e = .returned (.tuple #[]) ∧ AdP b m A tv T job bdg 0 t [] w w' := by
  obtain ⟨iE, hiE, zE0, zE1, zE2⟩ := info_parts Try.infoE
  have H := hide h
  have HJ := hide hj
  have HB := hide hb
  have h1 := (h.hole job).below (below_alloc w (.cells #[.int .i64 job, .int .i64 bdg, .slice none 0 0] 49))
  have c0 := h1.c0
  obtain ⟨w2, hst, hL2, hg2⟩ := h1.map.drew.store ⟨job, bdg, none, 0, []⟩
  have HS : Hid (Sb w2 b m (put ⟨job, bdg, none, 0, []⟩ A) tv T 0) := hide (h1.store (x := ⟨job, bdg, none, 0, []⟩) rfl ⟨hj.1, hj.2, hb.1, hb.2, by simp⟩ (World.ownsRow_nil _ _ _ _) (fun y hy hne k e => by cases e) hL2 ⟨hg2.os, hg2.tape, hg2.output, hg2.size, hg2.block⟩)
  have HM : Hid (Mv (Ft b m A tv 0) w w2) := hide ((Mv.of_below (below_alloc w _)).grown (w := w.alloc (.cells #[.int .i64 job, .int .i64 bdg, .slice none 0 0] 49)) ⟨hg2.os, hg2.tape, hg2.output, hg2.size, hg2.block⟩ (fun k e => by cases e; exact .inl (.inr (.inl rfl))))
  have c1 := HS.out.c1
  obtain ⟨ad, cap, hv⟩ := own_slice h.told
  subst hv
  have HO : Hid ((w2.alloc (.cells (Ev.cs ⟨job, bdg, 0, t⟩).toArray 45)).ownsRow 0 45 13 (.slice ad T.length cap) T.length (ecs T)) := hide (HS.out.below (below_alloc w2 _)).told
  have hlt : b < w2.heap.size := lt_blk HS.out.blk
  have HS3 := hide (HS.out.below (below_alloc w2 (.cells (Ev.cs ⟨job, bdg, 0, t⟩).toArray 45)))
  have HZ : Hid (∀ w4, (w2.alloc (.cells (Ev.cs ⟨job, bdg, 0, t⟩).toArray 45)).grownBy w4 (Value.slice ad T.length cap).ownBlock → w4.frozen? ⟨b, 1, none⟩ = false ∧ w4.cell? ⟨b, 1, none⟩ = some (Value.slice ad T.length cap)) := hide fun w4 hg => HS3.out.z4 hg 1
  dsimp only [Az.val, List.length_nil] at hst
  clear h h1 hj hb hL2 hg2
  go_enter Try.func18, Try.ntmps18
  go_wp2
  go_region
  go_wp2_with (at_builtin; refine wpList_append_two rfl _ _ 39 rfl 0 45 iE ev0 13 128 Try.underlying39 hiE zE0 zE1 zE2 rfl (by decide) (.slice ad T.length cap) T.length (ecs T) rfl HO.out ⟨w2.heap.size, 0, none⟩ 1 1 (Ev.cs ⟨job, bdg, 0, t⟩) (by decide) rfl rfl (World.news_of_block (heap_alloc_new w2 _)) (Ev.one _) (by unfold maxLen; omega) (by omega) (by omega) ?_; intro v' w4 hown hgrow htwo; have HO4 := hide hown; have HG4 := hide hgrow; have H24 := hide htwo; (obtain ⟨z4, c4⟩ := HZ.out _ hgrow); (obtain ⟨ad4, cap4, hv4⟩ := own_slice hown); subst hv4; clear hown hgrow htwo)
  go_end0
  refine ⟨rfl, ⟨job, bdg, none, 0, []⟩, _, rfl, rfl, rfl, HS3.out.tell HG4.out (T' := T ++ [⟨job, bdg, 0, t⟩]) (by rw [ecs_snoc, List.length_append]; exact HO4.out), ?_, ?_⟩
  · refine ((HM.out.below (below_alloc w2 _)).grown HG4.out (fun k e => .inl (.inr (.inr (.inl e))))).grown (grown_set w4 b 1 _) (fun k e => .inl ?_)
    cases e
    exact .inl rfl
  · have hsz : w.heap.size ≤ w2.heap.size := HM.out.size
    intro k hk
    rcases hk with e | e | e | ⟨x, hx, hx0, e⟩
    · exact .inl (.inl e)
    · exact .inl (.inr (.inl e))
    · rcases H24.out with e2 | ⟨e2, _⟩
      · exact .inl (.inr (.inr (.inl (e2.symm.trans e))))
      · rw [e] at e2
        injection e2 with e2
        rw [World.size_alloc] at e2
        exact .inr (by omega)
    · rcases mem_put.1 hx with rfl | ⟨hx1, _⟩
      · cases e
      · exact .inl (.inr (.inr (.inr ⟨x, hx1, hx0, e⟩)))
end Go.Proofs.Ytapcmmljdpallaa.K
