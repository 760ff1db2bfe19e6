import Derived.Test.YthjngodkpldpfaaGreatDoorMgBO
import Derived.OwnWalk

section
namespace Go.Proofs.YthjngodkpldpfaaGreatDoor
open Go.RowKit Go.Shelf

set_option maxRecDepth 20000 in
set_option maxHeartbeats 2000000 in
theorem rnew_at {w : World} {v : Value} {fuel : Nat} {xs : List In} (hx : ∀ x ∈ xs, x.Fits) (h : Cd w v xs) (hc : Pg.checkE fuel xs = (0, 0)) (h0 : 0 < xs.length) (h64 : xs.length ≤ 64) :
    Calls Tryz.prog 10 #[.agg #[.int .i64 (fuel : Int), v]] w fun e w' => ∃ B v', e = .returned (.tuple #[.pointer (some ⟨B, 0, none⟩), .int .i64 0]) ∧ Dm w' B Im.m0 v' (.slice none 0 0) (.slice none 0 0) xs fuel ∧ w.heap.size ≤ B ∧ Below w.heap.size w w' ∧ ∀ g, v'.ownBlock = some g → w.heap.size ≤ g := by
  have HC := hide (fun w1 h1 => rcheck_any fuel xs hx v w1 h1)
  rw [hc] at HC
  have HCd := hide h
  obtain ⟨i0, hi0, hz0, hz1, hz2⟩ := info_parts infoIns
  obtain ⟨p, cap, rfl, h2⟩ := h
  obtain ⟨g, off, rfl, hg, hcl⟩ := h2 h0
  have HCl := hide hcl
  clear hc hx h2 hcl
  go_enter Tryz.func10, Tryz.ntmps10
  go_wp2_with fail
  refine (HC.out _ (HCd.out.below (below_one w _) (Nat.le_refl _))).mono ?_
  rintro e w1 ⟨rfl, hb1⟩
  have HB1 : Hid (Below w.heap.size w w1) := (below_one w _).trans (hb1.mono (by simp))
  have hp : w1.heap[w.heap.size]? = some (.cells #[.int .i64 (fuel : Int), .slice (some ⟨g, off, none⟩) xs.length cap] 24 (0, 0)) := (hb1.block w.heap.size (by simp)).trans (heap_alloc_new w _)
  have HPW := hide hp
  have p0 : w1.cell? ⟨w.heap.size, 0, none⟩ = some (.int .i64 (fuel : Int)) := by simp [World.cell?, hp]
  have p1 : w1.cell? ⟨w.heap.size, 1, none⟩ = some (.slice (some ⟨g, off, none⟩) xs.length cap) := by simp [World.cell?, hp]
  have pz : ∀ i, w1.frozen? ⟨w.heap.size, i, none⟩ = false := fun i => by simp [World.frozen?, hp]
  have hpl : w.heap.size < w1.heap.size := lt_of_block hp
  have HCX : Hid (∀ j u, (flatI xs)[j]? = some u → w1.cell? ((⟨g, off, none⟩ : Addr).add j) = some u) := fun j u hu => by
    rw [addr_add]
    obtain ⟨h1, h3⟩ := flatI_at hu
    have := HCl.out (j / 6) h1 (j % 6) u h3
    rw [show off + j / 6 * 6 + j % 6 = off + j by omega] at this
    exact (HB1.out.cell (p := ⟨g, off + j, none⟩) hg).trans this
  clear hb1 hp
  go_wp2_with (at_builtin; refine wpList_append_own _ rfl _ _ 22 rfl w1.heap.size 66 i0 (.agg #[.int .i64 0, .int .i64 0, .int .i64 0, .int .i64 0, .int .i64 0, .int .u64 0]) 6 48 Tryz.underlying22 hi0 hz0 hz1 hz2 rfl (by decide) (.slice (some ⟨w1.heap.size, 0, none⟩) 0 0) 0 [] rfl (World.ownsRow_made w1 #[] 0 (Nat.le_refl _) (by decide) rfl) ⟨g, off, none⟩ xs.length cap (flatI xs) rfl (flatI_len xs) (fun j u hu => Lib.cell?_alloc_some _ (HCX.out j u hu)) (flatI_one xs) (by unfold maxLen; omega) (by omega) (by rw [World.size_alloc]; omega) ?_; intro v' w2 hown hgrow hnil; rw [Nat.zero_add, List.nil_append] at hown; obtain ⟨g2, cap2, rfl⟩ := own_some hown h0; have HP2 := hide ((hgrow.block w.heap.size (by rw [World.size_alloc]; omega) (by simp only [Value.ownBlock]; intro e; injection e with e; omega)).trans ((heap_alloc_old w1 _ hpl).trans HPW.out)); have r0 : w2.cell? ⟨w.heap.size, 0, none⟩ = some (.int .i64 (fuel : Int)) := cell_of_block HP2.out rfl; have r1 : w2.cell? ⟨w.heap.size, 1, none⟩ = some (.slice (some ⟨g, off, none⟩) xs.length cap) := cell_of_block HP2.out rfl; have rz := (two_ofP HP2.out).2.1; have hpl2 := lt_of_block HP2.out; have HOW := hide hown; have HGR := hide hgrow; clear hown hgrow hnil)
  go_ret2
  have g1 : w1.grownBy w2 (some w1.heap.size) := grown_trans (grown_one w1 _ _) HGR.out
  have g2b := HOW.out.lt g2 rfl
  have gs := grown_set w2 w.heap.size 1 (.slice (some ⟨g2, 0, none⟩) xs.length cap2)
  have hB : Below w.heap.size w (w2.setCell ⟨w.heap.size, 1, none⟩ (.slice (some ⟨g2, 0, none⟩) xs.length cap2)) := HB1.out.trans (below_of_grown g1 gs (by omega) (Nat.le_refl _) (by omega))
  refine ⟨w2.heap.size, .slice (some ⟨g2, 0, none⟩) xs.length cap2, rfl, ⟨⟨blk_new w2 w.heap.size 1 _ _, rfl⟩, World.ownsRow_nil _ _ _ _, World.ownsRow_nil _ _ _ _, (fun g e => by cases e), ⟨g2, 0, cap2, rfl, g2b.2, fun j hj i u hi => ?_⟩⟩, by omega, hB.trans ((below_one _ _).mono hB.size), fun g e => by simp only [Value.ownBlock] at e; injection e with e; omega⟩
  obtain ⟨b, off', cp, hv, hb, hne, hcells⟩ := own_cdn (B := w.heap.size) HOW.out h0 (fun e => by simp only [Value.ownBlock] at e; injection e with e; omega)
  injection hv with e1 e2 e3
  injection e1 with e1
  injection e1 with e1 e4
  subst e1 e4
  exact (grown_one _ _ none).cell (gs.cell (hcells j hj i u hi) (by simp; omega)) (by simp)
theorem infoPM : (Tryz.prog.info? 26).map (fun i => (i.zero, i.size, i.bytes)) = some (some (.pointer none), 1, 8) := by kernel_rfl
theorem infoPR : (Tryz.prog.info? 30).map (fun i => (i.zero, i.size, i.bytes)) = some (some (.pointer none), 1, 8) := by kernel_rfl
theorem ownT_at {w : World} {base g n cap size : Nat} {e : TypeId} {xs : List Value} (h : w.ownsRow base e size (.slice (some ⟨g, 0, none⟩) n cap) n xs) : ∃ cur, base ≤ g ∧ w.heap[g]? = some (.cells cur e (0, 0)) ∧ n ≤ cap ∧ cap ≤ maxLen ∧ cur.size = cap * size ∧ cur.toList.take (n * size) = xs := by
  rcases h.2 with ⟨h1, _⟩ | ⟨g', cap', cur, h1, hb, hg, h2⟩
  · cases h1
  · injection h1 with e1 e2 e3
    injection e1 with e1
    injection e1 with e1
    subst e1; subst e3
    exact ⟨cur, hb, hg, h2⟩
theorem ownT_keep {w w' : World} {base g n cap size : Nat} {e : TypeId} {xs : List Value} (h : w.ownsRow base e size (.slice (some ⟨g, 0, none⟩) n cap) n xs) (hs : w'.heap[g]? = w.heap[g]?) : w'.ownsRow base e size (.slice (some ⟨g, 0, none⟩) n cap) n xs := by
  obtain ⟨cur, h1, h2, h3⟩ := ownT_at h
  exact ⟨h.1, .inr ⟨g, cap, cur, rfl, h1, hs.trans h2, h3⟩⟩
/-- a machine and the document's, in memory -/
structure Tw where
  B : Nat
  B' : Nat
  m : Mc
  nv : Value
  pv : Value
def Tw.ft (x : Tw) (g : Nat) : Prop := ftP x.B x.B' x.nv x.pv g
def ptrL (S : List Tw) : List Value := S.map fun x => .pointer (some ⟨x.B, 0, none⟩)
def ptrR (S : List Tw) : List Value := S.map fun x => .pointer (some ⟨x.B', 0, none⟩)
structure Each (b0 lo : Nat) (w : World) (v v' : Value) (xs : List In) (fuel : Nat) (x : Tw) : Prop where
  m : Mb w x.B x.m v fuel
  d : Dm w x.B' x.m v' x.nv x.pv xs fuel
  c : Cdn w v xs x.B
  k : x.m.Ok xs.length fuel
  nx : v'.ownBlock ≠ some x.B
  b : b0 ≤ x.B
  b' : lo ≤ x.B'
structure MemS (b0 lo base : Nat) (w : World) (v v' : Value) (xs : List In) (fuel : Nat) (S : List Tw) : Prop where
  ord : b0 ≤ lo ∧ lo ≤ base
  vlo : ∀ g, v.ownBlock = some g → g < lo
  vlo' : ∀ g, v'.ownBlock = some g → g < base
  each : ∀ x ∈ S, Each b0 lo w v v' xs fuel x
  sep : ∀ (i j : Nat) (x y : Tw), S[i]? = some x → S[j]? = some y → i ≠ j → ∀ g, x.ft g → ¬ y.ft g
section
variable {b0 lo base : Nat} {w w' : World} {v v' : Value} {xs : List In} {fuel : Nat} {S : List Tw} {x : Tw}
theorem Each.far (h : Each b0 lo w v v' xs fuel x) {F G : Nat → Prop} (k : Mw F G w w') (h1 : ∀ g, x.ft g → ¬ F g) (h5 : ∀ g, v.ownBlock = some g → ¬ F g) (h6 : ∀ g, v'.ownBlock = some g → ¬ F g) : Each b0 lo w' v v' xs fuel x := by
  refine ⟨⟨(k.block x.B h.m.lt (h1 _ (.inl rfl))).trans h.m.blk, h.m.l8⟩, h.d.far k (h1 _ (.inr (.inl rfl))) (fun g e => h1 g (.inr (.inr (.inl e)))) (fun g e => h1 g (.inr (.inr (.inr e)))) h6, ?_, h.k, h.nx, h.b, h.b'⟩
  obtain ⟨b, off, cap, hv, hb, hn, hc⟩ := h.c
  refine ⟨b, off, cap, hv, Nat.lt_of_lt_of_le hb k.size, hn, fun j hj i u hi => ?_⟩
  have hq := hc j hj i u hi
  unfold World.cell? at hq ⊢
  rw [k.block b hb (h5 b (by rw [hv]; rfl))]
  exact hq
theorem Each.lt (h : Each b0 lo w v v' xs fuel x) (hb : b0 ≤ lo) {g : Nat} (f : x.ft g) : b0 ≤ g ∧ g < w.heap.size := by
  have hb' := h.b'
  rcases f with rfl | rfl | f | f
  · exact ⟨h.b, h.m.lt⟩
  · exact ⟨by omega, h.d.b.lt⟩
  · have := h.d.n.lt g f; exact ⟨by omega, this.2⟩
  · have := h.d.p.lt g f; exact ⟨by omega, this.2⟩
theorem Each.vn (h : Each b0 lo w v v' xs fuel x) {g : Nat} (hg : g < lo) (e : v.ownBlock = some g) : ¬ x.ft g := fun f => by
  have hb' := h.b'
  rcases f with f | f | f | f
  · obtain ⟨b, off, cap, hv, _, hn, _⟩ := h.c
    rw [hv] at e
    simp only [Value.ownBlock] at e
    injection e with e
    exact hn (e.trans f)
  · omega
  · have := (h.d.n.lt g f).1; omega
  · have := (h.d.p.lt g f).1; omega
theorem Each.vn' (h : Each b0 lo w v v' xs fuel x) {g : Nat} (e : v'.ownBlock = some g) : ¬ x.ft g := fun f => by
  obtain ⟨b, off, cap, hv, hb, _⟩ := h.d.c
  have e2 : b = g := by
    rw [hv] at e
    simp only [Value.ownBlock] at e
    injection e
  rcases f with f | f | f | f
  · exact h.nx (f ▸ e)
  · omega
  · have := (h.d.n.lt g f).1; omega
  · have := (h.d.p.lt g f).1; omega
/-- a block of another type is apart -/
theorem Each.ty (h : Each b0 lo w v v' xs fuel x) {g : Nat} {c : Array Value} {t : TypeId} (hg : w.heap[g]? = some (.cells c t (0, 0))) (t1 : 82 ≠ t) (t2 : 85 ≠ t) (t3 : t ≠ 43) (t4 : t ≠ 3) : ¬ x.ft g := fun f => by
  rcases f with f | f | f | f
  · exact ty_ne h.m.blk hg t1 f.symm
  · exact ty_ne h.d.b.blk hg t2 f.symm
  · exact own_ne h.d.n hg t3 f
  · exact own_ne h.d.p hg t4 f
theorem MemS.far (h : MemS b0 lo base w v v' xs fuel S) {F G : Nat → Prop} (k : Mw F G w w') (h1 : ∀ x ∈ S, ∀ g, x.ft g → ¬ F g) (h5 : ∀ g, v.ownBlock = some g → ¬ F g) (h6 : ∀ g, v'.ownBlock = some g → ¬ F g) : MemS b0 lo base w' v v' xs fuel S :=
  ⟨h.ord, h.vlo, h.vlo', fun x hx => (h.each x hx).far k (h1 x hx) h5 h6, h.sep⟩
theorem MemS.below (h : MemS b0 lo base w v v' xs fuel S) (k : Below w.heap.size w w') : MemS b0 lo base w' v v' xs fuel S :=
  h.far (F := fun _ => False) (G := fun _ => False) (mw_below k) (fun _ _ _ _ => id) (fun _ _ => id) (fun _ _ => id)
theorem MemS.drew (h : MemS b0 lo base w v v' xs fuel S) : MemS b0 lo base w.drew v v' xs fuel S := h.below (bd_drew w 1)
/-- a row of pointers may be turned -/
theorem MemS.row (h : MemS b0 lo base w v v' xs fuel S) {gl : Nat} {c : Array Value} {t : TypeId} (hg : w.heap[gl]? = some (.cells c t (0, 0))) (hb : base ≤ gl) (t1 : 82 ≠ t) (t2 : 85 ≠ t) (t3 : t ≠ 43) (t4 : t ≠ 3) (k : w.grownBy w' (some gl)) : MemS b0 lo base w' v v' xs fuel S := by
  have ho := h.ord
  refine h.far (F := fun k => k = gl) (G := fun k => k = gl) (mw_grown k (fun k e => by injection e with e; exact e.symm)) (fun x hx g f e => (h.each x hx).ty hg t1 t2 t3 t4 (e ▸ f)) (fun g e f => ?_) (fun g e f => ?_)
  · have := h.vlo g e; omega
  · have := h.vlo' g e; omega
theorem MemS.push (h : MemS b0 lo base w v v' xs fuel S) {y : Tw} (hy : Each b0 lo w v v' xs fuel y) (hs : ∀ x ∈ S, ∀ g, x.ft g → ¬ y.ft g) : MemS b0 lo base w v v' xs fuel (S ++ [y]) := by
  have getS : ∀ (i : Nat) (z : Tw), (S ++ [y])[i]? = some z → S[i]? = some z ∨ (i = S.length ∧ z = y) := fun i z hz => by
    rw [List.getElem?_append] at hz
    split at hz
    · exact .inl hz
    · next hn =>
      have h0 : i - S.length = 0 := by
        rcases Nat.eq_zero_or_pos (i - S.length) with h0 | h0
        · exact h0
        · rw [List.getElem?_eq_none (by simp; omega)] at hz; cases hz
      rw [h0] at hz
      injection hz with hz
      exact .inr ⟨by omega, hz.symm⟩
  refine ⟨h.ord, h.vlo, h.vlo', fun x hx => ?_, fun i j a b ha hb hij g f1 f2 => ?_⟩
  · rcases List.mem_append.1 hx with hx | hx
    · exact h.each x hx
    · simp at hx; subst hx; exact hy
  · rcases getS i a ha with ha2 | ⟨hi, hay⟩
    · rcases getS j b hb with hb2 | ⟨hj, hby⟩
      · exact h.sep i j a b ha2 hb2 hij g f1 f2
      · exact hs a (List.mem_of_getElem? ha2) g f1 (hby ▸ f2)
    · rcases getS j b hb with hb2 | ⟨hj, hby⟩
      · exact hs b (List.mem_of_getElem? hb2) g f2 (hay ▸ f1)
      · exact hij (hi.trans hj.symm)
theorem MemS.step (h : MemS b0 lo base w v v' xs fuel S) {k : Nat} (hx : S[k]? = some x) {m' : Mc} (hp : PrP w x.B x.B' m' v v' x.nv x.pv xs fuel w') (hk : m'.Ok xs.length fuel) :
    ∃ nv' pv', MemS b0 lo base w' v v' xs fuel (S.set k ⟨x.B, x.B', m', nv', pv'⟩) ∧ Mw x.ft (Tw.ft ⟨x.B, x.B', m', nv', pv'⟩) w w' := by
  obtain ⟨nv', pv', hm, hd, hw⟩ := hp.ex
  have hxm : x ∈ S := List.mem_of_getElem? hx
  have hX := h.each x hxm
  have hkl : k < S.length := (List.getElem?_eq_some_iff.1 hx).1
  have v1 : ∀ g, v.ownBlock = some g → ¬ x.ft g := fun g e => hX.vn (h.vlo g e) e
  have v2 : ∀ g, v'.ownBlock = some g → ¬ x.ft g := fun g e => hX.vn' e
  have hw' : Mw x.ft (Tw.ft ⟨x.B, x.B', m', nv', pv'⟩) w w' := hw
  have getS : ∀ (i : Nat) (z : Tw), (S.set k ⟨x.B, x.B', m', nv', pv'⟩)[i]? = some z → (i = k ∧ z = ⟨x.B, x.B', m', nv', pv'⟩) ∨ (i ≠ k ∧ S[i]? = some z) := fun i z hz => by
    rw [List.getElem?_set] at hz
    split at hz
    · next h1 => injection hz with hz; exact .inl ⟨h1.symm, hz.symm⟩
    · next h1 => exact .inr ⟨fun e => h1 e.symm, hz⟩
  have new : ∀ i z, S[i]? = some z → i ≠ k → ∀ g, z.ft g → ¬ Tw.ft ⟨x.B, x.B', m', nv', pv'⟩ g := fun i z hz hik g f1 f2 => by
    rcases hw'.foot g f2 with f | f
    · exact h.sep i k z x hz hx hik g f1 f
    · have := ((h.each z (List.mem_of_getElem? hz)).lt h.ord.1 f1).2; omega
  refine ⟨nv', pv', ⟨h.ord, h.vlo, h.vlo', fun z hz => ?_, fun i j a b ha hb hij g f1 f2 => ?_⟩, hw'⟩
  · obtain ⟨i, hi⟩ := List.getElem?_of_mem hz
    rcases getS i z hi with ⟨_, rfl⟩ | ⟨hik, hzi⟩
    · refine ⟨hm, hd, ?_, hk, hX.nx, hX.b, hX.b'⟩
      obtain ⟨b, off, cap, hv, hb, hn, hc⟩ := hX.c
      refine ⟨b, off, cap, hv, Nat.lt_of_lt_of_le hb hw.size, hn, fun j hj i u hi => ?_⟩
      have hq := hc j hj i u hi
      unfold World.cell? at hq ⊢
      rw [hw.block b hb (v1 b (by rw [hv]; rfl))]
      exact hq
    · exact (h.each z (List.mem_of_getElem? hzi)).far hw' (fun g f => h.sep i k z x hzi hx hik g f) v1 v2
  · rcases getS i a ha with ⟨hi, rfl⟩ | ⟨hi, ha'⟩
    · rcases getS j b hb with ⟨hj, rfl⟩ | ⟨hj, hb'⟩
      · exact hij (hi.trans hj.symm)
      · exact new j b hb' hj g f2 f1
    · rcases getS j b hb with ⟨hj, rfl⟩ | ⟨hj, hb'⟩
      · exact new i a ha' hi g f1 f2
      · exact h.sep i j a b ha' hb' hij g f1 f2
theorem ptrs_set {k : Nat} (hx : S[k]? = some x) (m' : Mc) (nv' pv' : Value) : ptrL (S.set k ⟨x.B, x.B', m', nv', pv'⟩) = ptrL S ∧ ptrR (S.set k ⟨x.B, x.B', m', nv', pv'⟩) = ptrR S := by
  have hk : k < S.length := (List.getElem?_eq_some_iff.1 hx).1
  constructor
  · unfold ptrL
    rw [List.map_set]
    apply List.ext_getElem?
    intro i
    rw [List.getElem?_set]
    split
    · next h1 => subst h1; simp only [List.length_map, hk, if_true, List.getElem?_map, hx, Option.map_some]
    · rfl
  · unfold ptrR
    rw [List.map_set]
    apply List.ext_getElem?
    intro i
    rw [List.getElem?_set]
    split
    · next h1 => subst h1; simp only [List.length_map, hk, if_true, List.getElem?_map, hx, Option.map_some]
    · rfl
end
/-- the pairs of a script, and the two slices of pointers -/
structure MemT (b0 lo base : Nat) (w : World) (gl cl ga ca n : Nat) (v v' : Value) (xs : List In) (fuel : Nat) (S : List Tw) : Prop where
  len : S.length = n
  s : MemS b0 lo base w v v' xs fuel S
  lrow : w.ownsRow base 26 1 (.slice (some ⟨gl, 0, none⟩) n cl) n (ptrL S)
  arow : w.ownsRow base 30 1 (.slice (some ⟨ga, 0, none⟩) n ca) n (ptrR S)
section
variable {b0 lo base : Nat} {w w' : World} {gl cl ga ca n : Nat} {v v' : Value} {xs : List In} {fuel : Nat} {S : List Tw} {x : Tw}
theorem MemT.gl_lt (h : MemT b0 lo base w gl cl ga ca n v v' xs fuel S) : base ≤ gl ∧ gl < w.heap.size := h.lrow.lt gl rfl
theorem MemT.ga_lt (h : MemT b0 lo base w gl cl ga ca n v v' xs fuel S) : base ≤ ga ∧ ga < w.heap.size := h.arow.lt ga rfl
theorem MemT.ne (h : MemT b0 lo base w gl cl ga ca n v v' xs fuel S) : gl ≠ ga := by
  obtain ⟨c1, _, h1, _⟩ := ownT_at h.lrow
  obtain ⟨c2, _, h2, _⟩ := ownT_at h.arow
  exact ty_ne h1 h2 (by decide)
theorem MemT.nl (h : MemT b0 lo base w gl cl ga ca n v v' xs fuel S) (hx : x ∈ S) : ¬ x.ft gl ∧ ¬ x.ft ga := by
  obtain ⟨c1, _, h1, _⟩ := ownT_at h.lrow
  obtain ⟨c2, _, h2, _⟩ := ownT_at h.arow
  exact ⟨(h.s.each x hx).ty h1 (by decide) (by decide) (by decide) (by decide), (h.s.each x hx).ty h2 (by decide) (by decide) (by decide) (by decide)⟩
theorem MemT.below (h : MemT b0 lo base w gl cl ga ca n v v' xs fuel S) (k : Below w.heap.size w w') : MemT b0 lo base w' gl cl ga ca n v v' xs fuel S :=
  ⟨h.len, h.s.below k, ownT_keep h.lrow (k.block _ h.gl_lt.2), ownT_keep h.arow (k.block _ h.ga_lt.2)⟩
theorem MemT.drew (h : MemT b0 lo base w gl cl ga ca n v v' xs fuel S) : MemT b0 lo base w.drew gl cl ga ca n v v' xs fuel S := h.below (bd_drew w 1)
theorem MemT.ptr (h : MemT b0 lo base w gl cl ga ca n v v' xs fuel S) {k : Nat} (hx : S[k]? = some x) : w.cell? ⟨gl, k, none⟩ = some (.pointer (some ⟨x.B, 0, none⟩)) ∧ w.cell? ⟨ga, k, none⟩ = some (.pointer (some ⟨x.B', 0, none⟩)) := by
  have h1 := h.lrow.cells (g := gl) rfl k (.pointer (some ⟨x.B, 0, none⟩)) (by simp [ptrL, hx])
  have h2 := h.arow.cells (g := ga) rfl k (.pointer (some ⟨x.B', 0, none⟩)) (by simp [ptrR, hx])
  rw [Addr.add_lit, Nat.zero_add] at h1 h2
  exact ⟨h1, h2⟩
theorem MemT.step (h : MemT b0 lo base w gl cl ga ca n v v' xs fuel S) {k : Nat} (hx : S[k]? = some x) {m' : Mc} (hp : PrP w x.B x.B' m' v v' x.nv x.pv xs fuel w') (hk : m'.Ok xs.length fuel) (hB : b0 ≤ w.heap.size) :
    ∃ S' y, S'[k]? = some y ∧ y.B = x.B ∧ y.B' = x.B' ∧ MemT b0 lo base w' gl cl ga ca n v v' xs fuel S' ∧ Below b0 w w' := by
  obtain ⟨nv', pv', hS, hw⟩ := h.s.step hx hp hk
  have hxm : x ∈ S := List.mem_of_getElem? hx
  have hkl : k < S.length := (List.getElem?_eq_some_iff.1 hx).1
  have hp := ptrs_set hx m' nv' pv'
  refine ⟨S.set k ⟨x.B, x.B', m', nv', pv'⟩, ⟨x.B, x.B', m', nv', pv'⟩, List.getElem?_set_self hkl, rfl, rfl, ⟨by rw [List.length_set]; exact h.len, hS, ?_, ?_⟩, ⟨hw.os, hw.tape, hw.output, hw.size, fun k hk => hw.block k (by omega) (fun f => by have := ((h.s.each x hxm).lt h.s.ord.1 f).1; omega)⟩⟩
  · rw [hp.1]; exact ownT_keep h.lrow (hw.block gl h.gl_lt.2 (h.nl hxm).1)
  · rw [hp.2]; exact ownT_keep h.arow (hw.block ga h.ga_lt.2 (h.nl hxm).2)
/-- between the two appends of a clone -/
theorem MemT.mid {w1 w2 : World} {o : Obj} (h : MemT b0 lo base w gl cl ga ca n v v' xs fuel S) (h1 : Below w.heap.size w w1) (hg : (w1.alloc o).grownBy w2 (some gl)) : MemS b0 lo base w2 v v' xs fuel S ∧ w2.ownsRow base 30 1 (.slice (some ⟨ga, 0, none⟩) n ca) n (ptrR S) := by
  have hA := h.below (bl_trans h1 (below_one w1 o))
  obtain ⟨c1, hb, hc, _⟩ := ownT_at hA.lrow
  exact ⟨hA.s.row hc hb (by decide) (by decide) (by decide) (by decide) hg, ownT_keep hA.arow (hg.block ga hA.ga_lt.2 (fun e => by injection e with e; exact hA.ne e.symm))⟩
/-- one pair more -/
theorem MemT.more {w1 w2 w3 w4 : World} {g6 c6 g7 c7 : Nat} {nv' pv' : Value} {o o' : Obj} {k : Nat} (h : MemT b0 lo base w gl cl ga ca n v v' xs fuel S) (hx : S[k]? = some x)
    (h1 : Below w.heap.size w w1) (hM : Mb w1 w.heap.size x.m v fuel) (hown6 : w2.ownsRow base 26 1 (.slice (some ⟨g6, 0, none⟩) (n + 1) c6) (n + 1) (ptrL S ++ [.pointer (some ⟨w.heap.size, 0, none⟩)])) (hg6 : (w1.alloc o).grownBy w2 (some gl))
    (h3 : Below w2.heap.size w2 w3) (hD : Dm w3 w2.heap.size x.m v' nv' pv' xs fuel) (hown7 : w4.ownsRow base 30 1 (.slice (some ⟨g7, 0, none⟩) (n + 1) c7) (n + 1) (ptrR S ++ [.pointer (some ⟨w2.heap.size, 0, none⟩)])) (hg7 : (w3.alloc o').grownBy w4 (some ga)) (hB : b0 ≤ w.heap.size) :
    MemT b0 lo base w4 g6 c6 g7 c7 (n + 1) v v' xs fuel (S ++ [⟨w.heap.size, w2.heap.size, x.m, nv', pv'⟩]) ∧ Below b0 w w4 := by
  have hxm : x ∈ S := List.mem_of_getElem? hx
  have hX := h.s.each x hxm
  have ho := h.s.ord
  have hgl := h.gl_lt
  have hga := h.ga_lt
  have z1 := h1.size
  have z2 : w1.heap.size + 1 ≤ w2.heap.size := by have := hg6.size; rw [World.size_alloc] at this; exact this
  have z3 := h3.size
  have z4 : w3.heap.size + 1 ≤ w4.heap.size := by have := hg7.size; rw [World.size_alloc] at this; exact this
  have zM := hM.lt
  have zD := hD.b.lt
  obtain ⟨hS2, hR2⟩ := h.mid h1 hg6
  have hS3 := hS2.below (bl_trans h3 (below_one w3 o'))
  have hR3 := ownT_keep hR2 ((bl_trans h3 (below_one w3 o')).block ga (hR2.lt ga rfl).2)
  obtain ⟨c7', hb7, hc7, _⟩ := ownT_at hR3
  have hS4 := hS3.row hc7 hb7 (by decide) (by decide) (by decide) (by decide) hg7
  obtain ⟨c6', hb6, hc6, _⟩ := ownT_at hown6
  have ne6 : g6 ≠ ga := by
    obtain ⟨c2, _, q2, _⟩ := ownT_at hR2
    exact ty_ne hc6 q2 (by decide)
  have b24 : ∀ j, j < w2.heap.size → j ≠ ga → w4.heap[j]? = w2.heap[j]? := fun j hj hn => (hg7.block j (by rw [World.size_alloc]; omega) (fun e => hn (by injection e))).trans ((heap_alloc_old w3 _ (by omega)).trans (h3.block j hj))
  have b14 : ∀ j, j < w1.heap.size → j ≠ gl → j ≠ ga → w4.heap[j]? = w1.heap[j]? := fun j hj n1 n2 => (b24 j (by omega) n2).trans ((hg6.block j (by rw [World.size_alloc]; omega) (fun e => n1 (by injection e))).trans (heap_alloc_old w1 _ hj))
  have k4 : Mw (fun j => j = ga) (fun j => j = ga) w3 w4 := (mw_below (below_one w3 o')).trans (mw_grown hg7 (fun j e => by injection e with e; exact e.symm))
  have hD4 : Dm w4 w2.heap.size x.m v' nv' pv' xs fuel := hD.far k4 (by omega) (fun g e => by have := (hD.n.lt g e).1; omega) (fun g e => by have := (hD.p.lt g e).1; omega) (fun g e => by have := h.s.vlo' g e; omega)
  have hM4 : Mb w4 w.heap.size x.m v fuel := ⟨(b14 _ zM (by omega) (by omega)).trans hM.blk, hM.l8⟩
  have hX4 := hS4.each x hxm
  have hcd : Cdn w4 v xs w.heap.size := by
    obtain ⟨b, off, cap, hv, hb, hn, hc⟩ := hX4.c
    exact ⟨b, off, cap, hv, hb, by have := h.s.vlo b (by rw [hv]; rfl); omega, hc⟩
  have hft : ∀ y ∈ S, ∀ g, y.ft g → g < w.heap.size := fun y hy g f => ((h.s.each y hy).lt ho.1 f).2
  refine ⟨⟨by rw [List.length_append, h.len]; rfl, hS4.push ⟨hM4, hD4, hcd, hX.k, fun e => by have := h.s.vlo' w.heap.size e; omega, by show b0 ≤ w.heap.size; exact hB, by show lo ≤ w2.heap.size; omega⟩ (fun y hy g f1 f2 => ?_), ?_, ?_⟩, ?_⟩
  · have hl := hft y hy g f1
    rcases f2 with f | f | f | f
    · simp only at f; omega
    · simp only at f; omega
    · have := (hD.n.lt g f).1; omega
    · have := (hD.p.lt g f).1; omega
  · rw [show ptrL (S ++ [⟨w.heap.size, w2.heap.size, x.m, nv', pv'⟩]) = ptrL S ++ [.pointer (some ⟨w.heap.size, 0, none⟩)] by simp [ptrL]]
    exact ownT_keep hown6 (b24 g6 (lt_of_block hc6) ne6)
  · rw [show ptrR (S ++ [⟨w.heap.size, w2.heap.size, x.m, nv', pv'⟩]) = ptrR S ++ [.pointer (some ⟨w2.heap.size, 0, none⟩)] by simp [ptrR]]
    exact hown7
  · refine ⟨hg7.os.trans (h3.os.trans (hg6.os.trans h1.os)), hg7.tape.trans (h3.tape.trans (hg6.tape.trans h1.tape)), hg7.output.trans (h3.output.trans (hg6.output.trans h1.output)), by omega, fun j hj => ?_⟩
    exact (b14 j (by omega) (by omega) (by omega)).trans (h1.block j (by omega))
end
theorem memT_start {b0 lo base : Nat} {W : World} {B B' gl ga : Nat} {v v' : Value} {xs : List In} {fuel : Nat} (hE : Each b0 lo W v v' xs fuel ⟨B, B', Im.m0, .slice none 0 0, .slice none 0 0⟩) (ho : b0 ≤ lo ∧ lo ≤ base) (h1 : ∀ g, v.ownBlock = some g → g < lo) (h2 : ∀ g, v'.ownBlock = some g → g < base)
    (h3 : W.heap[gl]? = some (.cells #[.pointer (some ⟨B, 0, none⟩)] 26 (0, 0))) (h4 : W.heap[ga]? = some (.cells #[.pointer (some ⟨B', 0, none⟩)] 30 (0, 0))) (h5 : base ≤ gl) (h6 : base ≤ ga) :
    MemT b0 lo base W gl 1 ga 1 1 v v' xs fuel [⟨B, B', Im.m0, .slice none 0 0, .slice none 0 0⟩] := by
  refine ⟨rfl, ⟨ho, h1, h2, fun x hx => ?_, fun i j x y hx hy hij => ?_⟩, ⟨rfl, .inr ⟨gl, 1, _, rfl, h5, h3, Nat.le_refl _, by decide, rfl, rfl⟩⟩, ⟨rfl, .inr ⟨ga, 1, _, rfl, h6, h4, Nat.le_refl _, by decide, rfl, rfl⟩⟩⟩
  · simp at hx; subst hx; exact hE
  · have one : ∀ (i : Nat) (x : Tw), [(⟨B, B', Im.m0, .slice none 0 0, .slice none 0 0⟩ : Tw)][i]? = some x → i = 0 := fun i x hx => by
      have := (List.getElem?_eq_some_iff.1 hx).1; simp at this; exact this
    exact absurd ((one i x hx).trans (one j y hy).symm) hij
end Go.Proofs.YthjngodkpldpfaaGreatDoor
end
