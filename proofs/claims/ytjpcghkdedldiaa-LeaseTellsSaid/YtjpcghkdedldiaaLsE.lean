import Derived.Test.YtjpcghkdedldiaaLsD
namespace Go.Proofs.Ytjpcghkdedldiaa
open Go.RowKit Go.Shelf

attribute [local go_sem] Oper.semAt_some

theorem Try.infoL : (Try.prog.info? 54).map (fun i => (i.zero, i.size, i.bytes)) = some (some lz0.val, 5, 40) := by kernel_rfl
theorem info_parts {t : TypeId} {z : Option Value} {s b : Nat} (h : (Try.prog.info? t).map (fun i => (i.zero, i.size, i.bytes)) = some (z, s, b)) : ∃ i, Try.prog.info? t = some i ∧ i.zero = z ∧ i.size = s ∧ i.bytes = b := by
  cases hi : Try.prog.info? t with
  | none => rw [hi] at h; cases h
  | some i =>
    rw [hi] at h
    simp only [Option.map_some, Option.some.injEq, Prod.mk.injEq] at h
    exact ⟨i, rfl, h.1, h.2.1, h.2.2⟩
theorem below_alloc (w : World) (o : Obj) : Below w.heap.size w (w.alloc o) := (Below.refl _ _).alloc (Nat.le_refl _) o
theorem below_of {w W w' : World} (h : Below w.heap.size w W) (k : Below W.heap.size W w') : Below w.heap.size w w' := h.trans (k.mono h.size)
theorem own_alloc {w : World} {base n size : Nat} {e : TypeId} {v : Value} {xs : List Value} (h : w.ownsRow base e size v n xs) (o : Obj) : (w.alloc o).ownsRow base e size v n xs :=
  h.kept (World.grownBy_alloc w o none) (by cases v.ownBlock <;> simp)
theorem own_below {w w' : World} {base n size : Nat} {e : TypeId} {v : Value} {xs : List Value} (h : w.ownsRow base e size v n xs) (hb : Below w.heap.size w w') : w'.ownsRow base e size v n xs :=
  h.kept (grown_of_below hb) (by cases v.ownBlock <;> simp)
/-- a box of another type is none of a row's blocks -/
theorem box_not_row {w : World} {B base n size : Nat} {t e : TypeId} {u v : Value} {xs : List Value} (hb : Boxed w B t u) (ho : w.ownsRow base e size v n xs) (hne : t ≠ e) : v.ownBlock ≠ some B := by
  rcases ho.2 with ⟨h1, _⟩ | ⟨g, cap, cur, rfl, _, hg, _⟩
  · rw [h1]; simp [Value.ownBlock]
  · intro e1
    simp only [Value.ownBlock, Option.some.injEq] at e1
    subst e1
    rw [show w.heap[g]? = _ from hb] at hg
    injection hg with hg
    injection hg with _ hg
    exact hne hg
/-- a row of one's own, when others than cells turn -/
theorem own_others {w w' : World} {base n size : Nat} {e : TypeId} {v : Value} {xs : List Value} {row : Option Nat} (h : w.ownsRow base e size v n xs) (hg : w.grownBy w' row) (hr : ∀ r, row = some r → ∃ o : Obj, w.heap[r]? = some o ∧ o.isCells = false) : w'.ownsRow base e size v n xs := by
  refine h.kept hg ?_
  rcases h.2 with ⟨h1, _⟩ | ⟨g, cap, cur, rfl, _, hgb, _⟩
  · exact .inl (by rw [h1]; rfl)
  · refine .inr fun e1 => ?_
    obtain ⟨o, ho, hc⟩ := hr g (by rw [← e1]; rfl)
    rw [hgb] at ho
    cases ho
    cases hc
theorem own_set {w : World} {base n size B : Nat} {e t : TypeId} {v u u' : Value} {xs : List Value} (h : w.ownsRow base e size v n xs) (hb : Boxed w B t u) (hne : t ≠ e) : (w.setCell ⟨B, 0, none⟩ u').ownsRow base e size v n xs :=
  h.kept (grownBy_setCell' w B u') (.inr (box_not_row hb h hne))
/-- a lease in a block -/
theorem five_of {w : World} {B : Nat} {x : Lz} (h : w.heap[B]? = some x.obj) :
    w.cell? ⟨B, 0, none⟩ = some (.int .i64 x.job) ∧ w.cell? ⟨B, 1, none⟩ = some (.int .i64 x.bdg) ∧ w.cell? ⟨B, 2, none⟩ = some (.int .i64 x.node) ∧ w.cell? ⟨B, 3, none⟩ = some (.int .i64 x.life) ∧ w.cell? ⟨B, 4, none⟩ = some (.int .i64 x.left) := by
  simp [World.cell?, h]
theorem own_cellsB {w : World} {base n size : Nat} {e : TypeId} {v : Value} {xs : List Value} (h : w.ownsRow base e size v n xs) : ∀ k, v.ownBlock = some k → ∃ o : Obj, w.heap[k]? = some o ∧ o.isCells = true := fun k hk => by
  rcases h.2 with ⟨h1, _⟩ | ⟨g, cap, cur, rfl, _, hg, _⟩
  · rw [h1] at hk; cases hk
  · cases hk
    exact ⟨_, hg, rfl⟩
theorem ko_grown {W W' : World} {row : Option Nat} (hg : W.grownBy W' row) (h : ∀ k, row = some k → ∃ o : Obj, W.heap[k]? = some o ∧ o.isCells = true) : KeepsOthers W W' :=
  ⟨hg.size, fun k o hk ho => (hg.block k (lt_of_block hk) (fun e => by
    obtain ⟨o', h1, h2⟩ := h k e.symm
    rw [hk] at h1
    cases h1
    rw [ho] at h2
    cases h2)).trans hk⟩
theorem kw_of_ko {W W' : World} (h : KeepsOthers W W') : KeepsWalks W W' := ⟨h.size, fun k o hk ho => h.same k o hk (Obj.not_cells_of_walk ho)⟩
theorem lcs_snoc (l : List Lz) (x : Lz) : lcs (l ++ [x]) = lcs l ++ x.cs := by rw [lcs_append, lcs_one]

/-- what AppendSeq has gathered -/
structure Ap (w : World) (B : Nat) (pre : List Lz) (v : Value) (W : World) : Prop where
  box : Boxed W B 42 v
  row : W.ownsRow B 54 5 v pre.length (lcs pre)
  low : Below B w W
theorem Ap.others {w W W' : World} {B : Nat} {pre : List Lz} {v : Value} {row : Option Nat} (h : Ap w B pre v W) (hw : B ≤ w.heap.size) (hg : W.grownBy W' row) (hr : ∀ r, row = some r → B ≤ r ∧ ∃ o : Obj, W.heap[r]? = some o ∧ o.isCells = false) : Ap w B pre v W' := by
  have hr2 : ∀ r, row = some r → ∃ o : Obj, W.heap[r]? = some o ∧ o.isCells = false := fun r e => (hr r e).2
  refine ⟨h.box.kept hg (fun e => ?_), own_others h.row hg hr2, h.low.grown hg (Nat.le_trans hw h.low.size) (fun k e => (hr k e).1)⟩
  obtain ⟨o, ho, hc⟩ := hr2 _ e.symm
  rw [show W.heap[B]? = _ from h.box] at ho
  cases ho
  cases hc

set_option maxRecDepth 100000 in
set_option maxHeartbeats 4000000 in
theorem appendSeq_any {w : World} {Bs m : Nat} {L : List Lz} (hBs : w.cell? ⟨Bs, 0, none⟩ = some (.map (some m))) (hL : Lm w m L) (hl : L.length ≤ 1000) :
    Calls Try.prog 41 #[.slice none 0 0, .func (.func 39) #[] #[.pointer (some ⟨Bs, 0, none⟩)]] w fun e w' =>
      ∃ v ys, e = .returned v ∧ ys.Perm L ∧ w'.ownsRow w.heap.size 54 5 v ys.length (lcs ys) ∧ Below w.heap.size w w' := by
  obtain ⟨i0, hi0, hz0, hz1, hz2⟩ := info_parts Try.infoL
  have hBl : Bs < w.heap.size := World.block_lt_of_cell? _ _ hBs
  refine (callsIn_wide (n := 6)).1 ?_
  refine callsIn_of_wp_marks Try.func41 rfl trivial ?_ rfl
  simp only [Try.ntmps41, List.size_toArray, List.length_cons, List.length_nil, Nat.reduceAdd, Nat.reduceSub, Array.replicate_succ, Array.replicate_zero, List.push_toArray, List.append_toArray, List.nil_append, List.cons_append]
  have HL := hide (hL.below (below_alloc w (.cells #[.slice none 0 0] 42)))
  have hB1 : (w.alloc (.cells #[.slice none 0 0] 42)).cell? ⟨Bs, 0, none⟩ = some (.map (some m)) := Lib.cell?_alloc_some _ hBs
  have HB1 := hide hB1
  have HA : Hid (Ap w w.heap.size [] (.slice none 0 0) (w.alloc (.cells #[.slice none 0 0] 42))) := ⟨Boxed.new w _ _, World.ownsRow_nil _ _ _ _, below_alloc w _⟩
  have hbl : Bs < (w.alloc (.cells #[.slice none 0 0] 42)).heap.size := by simp; omega
  have HSZ : Hid ((w.alloc (.cells #[.slice none 0 0] 42)).heap.size = w.heap.size + 1) := World.size_alloc _ _
  clear hBs hL hB1
  gi_wp2_with fail
  generalize w.alloc (.cells #[.slice none 0 0] 42) = W0 at *
  refine wpIn_rangeFunc_ownH rfl (by decide) (gf := 39) (lb := #[.pointer (some ⟨Bs, 0, none⟩)]) rfl trivial (enters_of Try.func39 (by kernel_rfl) rfl)
    (values_stops 5 (by decide) Bs m L W0 hbl HB1.out HL.out)
    KeepsWalks.trans (fun W k o o' hk ho hc hw => KeepsWalks.putObj o' ho hw) (Below.refl _ _) (fun _ => rfl)
    (fun pre W => ∃ v, Ap w w.heap.size pre v W)
    (fun _ _ _ => False)
    (fun pre X Y row hs hg hr => by
      obtain ⟨v, hs⟩ := hs
      exact ⟨v, hs.others (Nat.le_refl _) hg (fun r e => ⟨by have := (hr r e).1; have := HSZ.out; omega, (hr r e).2⟩)⟩)
    (fun _ _ _ _ _ hs _ _ => hs)
    ⟨_, HA.out⟩
    (fun x a' W => ∃ Bx, W.heap[Bx]? = some x.obj ∧ a' = { tmps := #[.slice none 0 0, .func (.func 39) #[] #[.pointer (some ⟨Bs, 0, none⟩)], .pointer (some ⟨w.heap.size, 0, none⟩), undef, .slice none 0 0, .pointer (some ⟨Bx, 0, none⟩), .func (.func 39) #[] #[.pointer (some ⟨Bs, 0, none⟩)], x.val, undef, undef, undef, undef, undef], defers := [] })
    ?hAx ?assign ?body ?done ?stop
  case hAx =>
    rintro x a' _ X Y row ⟨Bx, h2, h3⟩ hg hr
    refine ⟨Bx, (hg.block Bx (lt_of_block h2) (fun e => ?_)).trans h2, h3⟩
    obtain ⟨_, o, ho, hc⟩ := hr Bx e.symm
    rw [h2] at ho
    cases ho
    cases hc
  case assign =>
    rintro k pre x W K ⟨v, hA⟩ hK
    gi_wp2
    exact hK _ _ ((KeepsOthers.alloc _ _).from _) (KeepsWalks.alloc _ _) ⟨v, hA.others (Nat.le_refl _) (World.grownBy_alloc W _ none) (fun r e => by cases e)⟩ ⟨W.heap.size, heap_alloc_new W _, rfl⟩
  case body =>
    rintro k pre x a' W hk ⟨r, hr⟩ ⟨v, hA⟩ ⟨Bx, hx, rfl⟩ hlen
    obtain ⟨ad, cap, hv⟩ := own_slice hA.row
    subst hv
    have HA1 := hide hA
    have d2 := hA.box.cell
    have f2 := hA.box.frozen
    obtain ⟨x0, x1, x2, x3, x4⟩ := five_of hx
    have HXX := hide hx
    clear hA hx hr
    have HBX : Hid (∀ w3, (W.alloc x.obj).grownBy w3 (Value.slice ad pre.length cap).ownBlock → Boxed w3 w.heap.size 42 (.slice ad pre.length cap)) := fun w3 hg => (HA1.out.box.alloc _).kept hg (Ne.symm (box_not_row (HA1.out.box.alloc x.obj) (own_alloc HA1.out.row x.obj) (by decide)))
    have HAL := hide (own_alloc HA1.out.row x.obj)
    have hsz0 : w.heap.size ≤ W.heap.size := HA1.out.low.size
    gi_wp2_with (gi_at_builtin; refine wpListIn_append_own _ rfl _ _ 42 rfl w.heap.size 54 i0 lz0.val 5 40 Try.underlying42 hi0 hz0 hz1 hz2 rfl (by decide) (.slice ad pre.length cap) pre.length (lcs pre) rfl HAL.out ⟨W.heap.size, 0, none⟩ 1 1 x.cs rfl rfl (World.news_of_block (heap_alloc_new W x.obj)) (lcs_one_cell [x]) (by unfold maxLen; omega) (by omega) (by simp; omega) ?_; intro v3 w3 hown3 hgrow3 _; (obtain ⟨ad3, cap3, hv3⟩ := own_slice hown3); subst hv3; (have HO3 := hide hown3); (have HG3 := hide hgrow3); (have b3 := HBX.out _ hgrow3); (have d3 := b3.cell); (have f3 := b3.frozen); (have H3 := hide b3); clear b3 hown3 hgrow3)
    have hlow := (HA1.out.low.alloc hsz0 x.obj).grown HG3.out (by simp; omega) (fun k e => (HAL.out.lt k e).1)
    have hko : KeepsOthers W w3 := (KeepsOthers.alloc W x.obj).trans (ko_grown HG3.out (own_cellsB HAL.out))
    have hko2 := hko.trans (KeepsOthers.setCell w3 ⟨w.heap.size, 0, none⟩ (.slice ad3 (pre.length + 1) cap3))
    refine ⟨hko2.from _, kw_of_ko hko2, _, H3.out.set _, ?_, hlow.setCell (p := ⟨w.heap.size, 0, none⟩) (Nat.le_refl _) _⟩
    rw [lcs_snoc, List.length_append, List.length_singleton]
    exact own_set HO3.out H3.out (by decide)
  case done =>
    rintro D ys W hD hp ⟨v, hA⟩ hK
    obtain ⟨ad, cap, hv⟩ := own_slice hA.row
    subst hv
    have d2 := hA.box.cell
    have HA1 := hide hA
    have HK := hide hK
    have HPP := hide hp
    clear hA hK hp
    gi_wp2_with fail
    refine ⟨by simp, .inl ⟨_, _, rfl, run_takeDeferred HK.out, ?_⟩⟩
    have hgp := grownBy_putObj' W D (.deferred none)
    have hA2 := HA1.out.others (Nat.le_refl _) hgp (fun r e => by cases e; exact ⟨by have := HSZ.out; omega, _, HK.out, rfl⟩)
    refine ⟨.slice ad ys.length cap, ?_, _, ys, rfl, HPP.out, hA2.row, hA2.low⟩
    simp [results, Try.f41, go_sem]
  case stop =>
    rintro D c pre W hD _ h hK
    exact h.elim
end Go.Proofs.Ytjpcghkdedldiaa
