import Derived.Test.YtjpcghkdedldiaaLsN
namespace Go.Proofs.Ytjpcghkdedldiaa
open Go.RowKit Go.Shelf

attribute [local go_sem] Oper.semAt_some

/-- one tick less -/
def dec (x : Lz) : Lz := { x with left := x.left - 1 }
/-- what a tick's round makes of the leases -/
def tk1 (M : List Lz) (x : Lz) : List Lz := if 1 < x.left then put (dec x) M else del x.bdg M
def tkM (pre : List Lz) (L : List Lz) : List Lz := pre.foldl tk1 L
def tkO (pre : List Lz) : List Lz := (pre.filter fun x => !decide (1 < x.left)).map dec
theorem tkM_snoc (pre L : List Lz) (x : Lz) : tkM (pre ++ [x]) L = tk1 (tkM pre L) x := by simp [tkM]
theorem tkO_snoc_live {pre : List Lz} {x : Lz} (h : 1 < x.left) : tkO (pre ++ [x]) = tkO pre := by simp [tkO, h]
theorem tkO_snoc_over {pre : List Lz} {x : Lz} (h : ¬ 1 < x.left) : tkO (pre ++ [x]) = tkO pre ++ [dec x] := by
  have : ¬ 1 < x.left := h
  simp [tkO, this]
theorem tkO_len (pre : List Lz) : (tkO pre).length ≤ pre.length := by
  simp only [tkO, List.length_map]
  exact List.length_filter_le _ _

/-- where Tick stands -/
structure Tk (w : World) (H b m : Nat) (T : Int) (L pre : List Lz) (v : Value) (W : World) : Prop where
  bt : Boxed W H 23 (.pointer (some ⟨b, 0, none⟩))
  bo : Boxed W (H + 1) 42 v
  row : W.ownsRow H 54 5 v (tkO pre).length (lcs (tkO pre))
  tb : Tb W b m T (tkM pre L)
  gr : w.grownBy W (some m)
section
variable {w W W' : World} {H b m : Nat} {T : Int} {L pre : List Lz} {v : Value}
theorem Tk.others {row : Option Nat} (h : Tk w H b m T L pre v W) (hb : b < H) (hm : m < H) (hw : w.heap.size ≤ H) (hg : W.grownBy W' row) (hr : ∀ q, row = some q → H ≤ q ∧ ∃ o : Obj, W.heap[q]? = some o ∧ o.isCells = false) : Tk w H b m T L pre v W' := by
  have hr2 : ∀ q, row = some q → ∃ o : Obj, W.heap[q]? = some o ∧ o.isCells = false := fun q e => (hr q e).2
  have hlt : ∀ k, k < H → some k ≠ row := fun k hk e => by have := (hr k e.symm).1; omega
  exact ⟨box_others h.bt hg hr2, box_others h.bo hg hr2, own_others h.row hg hr2, h.tb.keep (hg.block b h.tb.lt (hlt b hb)) (hg.block m h.tb.map.lt (hlt m hm)), h.gr.andThen hg (fun j e => .inl (Nat.le_trans hw (hr j e).1))⟩
theorem Tk.var {Bx : Nat} (h : Tk w H b m T L pre v W) (hb : b < H) (hm : m < H) (hw : w.heap.size ≤ H) (hB : H + 2 ≤ Bx) (hv : v.ownBlock ≠ some Bx) (hg : W.grownBy W' (some Bx)) : Tk w H b m T L pre v W' :=
  ⟨h.bt.kept hg (fun e => by cases e; omega), h.bo.kept hg (fun e => by cases e; omega), h.row.kept hg (.inr hv), h.tb.keep (hg.block b h.tb.lt (fun e => by cases e; omega)) (hg.block m h.tb.map.lt (fun e => by cases e; omega)), h.gr.andThen hg (fun j e => .inl (by cases e; omega))⟩
end
/-- the map turns -/
theorem Tk.map3 {w W W' : World} {H b m : Nat} {T : Int} {L pre M : List Lz} {v : Value} (h : Tk w H b m T L pre v W) (hL : Lm W' m M) (hg : W.grownBy W' (some m)) :
    Boxed W' H 23 (.pointer (some ⟨b, 0, none⟩)) ∧ Boxed W' (H + 1) 42 v ∧ W'.ownsRow H 54 5 v (tkO pre).length (lcs (tkO pre)) ∧ Tb W' b m T M ∧ w.grownBy W' (some m) := by
  have hr : ∀ r, some m = some r → ∃ o : Obj, W.heap[r]? = some o ∧ o.isCells = false := fun r e => by
    obtain ⟨es, c, h1⟩ := h.tb.map.block
    cases e
    exact ⟨_, h1, rfl⟩
  exact ⟨box_others h.bt hg hr, box_others h.bo hg hr, own_others h.row hg hr, h.tb.turn hL hg, grown_trans h.gr hg⟩
theorem Kl.var {S : Nat → Prop} {B Bx : Nat} {W W' : World} {x : Lz} (hne : B ≠ Bx) (hB : B < W.heap.size) (hx : W.heap[Bx]? = some x.obj) (hg : W.grownBy W' (some Bx)) : Kl S B W W' := by
  have h5 : L5 W Bx := ⟨_, hx, rfl⟩
  refine ⟨hg.size, fun k o hk _ hl _ => (hg.block k (lt_of_block hk) (fun e => hl (by injection e with e; rw [e]; exact h5))).trans hk, fun k hk => ?_⟩
  rcases hk with hk | ⟨v, h1, h2⟩
  · exact .inl (.inl hk)
  · rw [World.cell?_of_block (a := ⟨B, 0, none⟩) (hg.block B hB (fun e => hne (by injection e with e)))] at h1
    exact .inl (.inr ⟨v, h1, h2⟩)
theorem grown_cell (W : World) (B o : Nat) (u : Value) : W.grownBy (W.setCell ⟨B, o, none⟩ u) (some B) :=
  ⟨rfl, rfl, rfl, by show W.heap.size ≤ (W.heap.modify _ _).size; rw [Array.size_modify]; exact Nat.le_refl _, fun k _ hk => Below.heap_setCell W ⟨B, o, none⟩ u k (fun e => hk (by rw [show k = B from e]))⟩
theorem obj_dec {W : World} {B : Nat} {x : Lz} (h : W.heap[B]? = some x.obj) : (W.setCell ⟨B, 4, none⟩ (.int .i64 (x.left - 1))).heap[B]? = some (dec x).obj := by
  show (W.heap.modify B _)[B]? = _
  rw [Array.getElem?_modify, if_pos rfl, h]
  rfl

set_option maxRecDepth 100000 in
set_option maxHeartbeats 4000000 in
theorem tick_any {w : World} {b m : Nat} {T : Int} {L : List Lz} (hT : Tb w b m T L) (hl : L.length ≤ 12) (hleft : ∀ x ∈ L, 1 ≤ x.left ∧ x.left ≤ 256) :
    Calls Try.prog 19 #[.pointer (some ⟨b, 0, none⟩)] w fun e w' => ∃ v, e = .returned v ∧ w'.ownsRow w.heap.size 54 5 v (tkO L).length (lcs (tkO L)) ∧ Tb w' b m T (tkM L L) ∧ w.grownBy w' (some m) := by
  obtain ⟨i0, hi0, hz0, hz1, hz2⟩ := info_parts Try.infoL
  have hlb := hT.lt
  have hlm := hT.map.lt
  refine (callsIn_wide (n := 6)).1 ?_
  refine callsIn_of_wp_marks Try.func19 rfl trivial ?_ rfl
  simp only [Try.ntmps19, List.size_toArray, List.length_cons, List.length_nil, Nat.reduceAdd, Nat.reduceSub, Array.replicate_succ, Array.replicate_zero, List.push_toArray, List.append_toArray, List.nil_append, List.cons_append]
  have HT := hide hT
  clear hT
  gi_wp2_with fail
  have b0 := (Boxed.new w 23 (.pointer (some ⟨b, 0, none⟩))).alloc (.cells #[.slice none 0 0] 42)
  have b1 := Boxed.new (w.alloc (.cells #[.pointer (some ⟨b, 0, none⟩)] 23)) 42 (.slice none 0 0)
  rw [World.size_alloc] at b1
  have hlow := ((Below.refl _ w).alloc (Nat.le_refl _) (.cells #[.pointer (some ⟨b, 0, none⟩)] 23)).alloc (by simp) (.cells #[.slice none 0 0] 42)
  have HTk : Hid (Tk w w.heap.size b m T L [] (.slice none 0 0) ((w.alloc (.cells #[.pointer (some ⟨b, 0, none⟩)] 23)).alloc (.cells #[.slice none 0 0] 42))) := ⟨b0, b1, World.ownsRow_nil _ _ _ _, HT.out.below hlow, grown_any hlow _⟩
  have HSZ : Hid (((w.alloc (.cells #[.pointer (some ⟨b, 0, none⟩)] 23)).alloc (.cells #[.slice none 0 0] 42)).heap.size = w.heap.size + 2) := by show _ = _; simp
  clear b0 b1 hlow HT
  generalize (w.alloc (.cells #[.pointer (some ⟨b, 0, none⟩)] 23)).alloc (.cells #[.slice none 0 0] 42) = W0 at *
  refine ⟨trivial, (callsIn_wide.2 (all_any b W0)).mono ?_⟩
  rintro e w1 ⟨rfl, rfl⟩
  have HBs : Hid ((W0.alloc (.cells #[.pointer (some ⟨b, 0, none⟩)] 23)).cell? ⟨w.heap.size + 2, 0, none⟩ = some (.pointer (some ⟨b, 0, none⟩))) := by
    have := (Boxed.new W0 23 (.pointer (some ⟨b, 0, none⟩))).cell
    rw [HSZ.out] at this
    exact this
  have HTk2 := hide (HTk.out.others hlb hlm (Nat.le_refl _) (World.grownBy_alloc W0 (.cells #[.pointer (some ⟨b, 0, none⟩)] 23) none) (fun q e => by cases e))
  have HSZ2 : Hid ((W0.alloc (.cells #[.pointer (some ⟨b, 0, none⟩)] 23)).heap.size = w.heap.size + 3) := by show _ = _; rw [World.size_alloc, HSZ.out]
  have hW0 : W0.heap.size = w.heap.size + 2 := HSZ.out
  rw [hW0]
  clear HTk HSZ hW0
  generalize W0.alloc (.cells #[.pointer (some ⟨b, 0, none⟩)] 23) = W1 at *
  gi_wp2_with fail
  refine wpIn_rangeFunc_ownH rfl (by decide) (gf := 32) (lb := #[.pointer (some ⟨w.heap.size + 2, 0, none⟩)]) rfl trivial (enters_of Try.func32 (by kernel_rfl) rfl)
    (all_stops 5 (by decide) (w.heap.size + 2) b m T L (fun k => k = w.heap.size + 1) (w.heap.size + 1) W1 (by have := HSZ2.out; omega) (fun k hk => by
      rcases hk with rfl | ⟨v, h1, h2⟩
      · have := HSZ2.out; omega
      · rw [HTk2.out.bo.cell] at h1; cases h1; cases h2) HBs.out HTk2.out.tb hl)
    Kl.trans (fun W k o o' hk ho hc _ => Kl.put (N := W1.heap.size) (by have := HSZ2.out; omega) hk ho hc) (Below.refl _ _) (fun _ => rfl)
    (fun pre W => ∃ v, Tk w w.heap.size b m T L (pre.map Subtype.val) v W)
    (fun _ _ _ => False)
    ?hI (fun _ _ _ _ _ hs _ _ => hs) ⟨_, HTk2.out⟩
    (fun x a' W => ∃ Bx, W.heap[Bx]? = some x.1.obj ∧ w.heap.size + 2 ≤ Bx ∧ (∀ u, W.cell? ⟨w.heap.size + 1, 0, none⟩ = some u → u.ownBlock ≠ some Bx) ∧ a' = { tmps := #[.pointer (some ⟨b, 0, none⟩), .pointer (some ⟨w.heap.size, 0, none⟩), .slice none 0 0, .pointer (some ⟨w.heap.size + 1, 0, none⟩), .pointer (some ⟨Bx, 0, none⟩), .pointer (some ⟨b, 0, none⟩), .func (.func 32) #[] #[.pointer (some ⟨w.heap.size + 2, 0, none⟩)], x.1.val, undef, undef, undef, undef, undef, undef, undef, undef, undef, undef, undef, undef, undef, undef, undef, undef, undef, undef, undef, undef, undef, undef, undef, undef, undef], defers := [] })
    ?hAx ?assign ?body ?done ?stop
  case hI =>
    rintro pre X Y row ⟨v, h1⟩ hg hr
    exact ⟨v, h1.others hlb hlm (Nat.le_refl _) hg (fun q e => ⟨by have := (hr q e).1; have := HSZ2.out; omega, (hr q e).2⟩)⟩
  case hAx =>
    rintro x a' _ X Y row ⟨Bx, h2, h4, h5, h3⟩ hg hr
    refine ⟨Bx, (hg.block Bx (lt_of_block h2) (fun e => ?_)).trans h2, h4, fun u hu => h5 u ?_, h3⟩
    case refine_2 =>
      rw [← World.cell?_of_block (a := ⟨w.heap.size + 1, 0, none⟩) (hg.block (w.heap.size + 1) (by have := lt_of_block h2; omega) (fun e => by have := (hr _ e.symm).1; have := HSZ2.out; omega))]
      exact hu
    obtain ⟨_, o, ho, hc⟩ := hr Bx e.symm
    rw [h2] at ho
    cases ho
    cases hc
  case assign =>
    rintro k pre x W K ⟨v, hA⟩ hK
    have hbl := hA.bo.lt
    gi_wp2
    exact hK _ _ ((KeepsOthers.alloc _ _).from _) (Kl.alloc hbl _) ⟨v, hA.others hlb hlm (Nat.le_refl _) (World.grownBy_alloc W _ none) (fun r e => by cases e)⟩ ⟨W.heap.size, heap_alloc_new W _, by omega, fun u hu e => by
      rw [(hA.bo.alloc _).cell] at hu
      cases hu
      exact absurd ((hA.row.lt _ e).2) (by omega), rfl⟩
  case body =>
    rintro k pre x a' W hk ⟨r, hr⟩ ⟨v, hA⟩ ⟨Bx, hx, hBx, hown, rfl⟩ hlen
    obtain ⟨x0, x1, x2, x3, x4⟩ := five_of hx
    have f4 : W.frozen? ⟨Bx, 4, none⟩ = false := by simp [World.frozen?, hx]
    obtain ⟨hle1, hle2⟩ := hleft x.1 x.2
    have hvB := hown v hA.bo.cell
    have HX := hide hx
    have HA2 := hide (hA.var hlb hlm (Nat.le_refl _) hBx hvB (grown_cell W Bx 4 (.int .i64 (x.1.left - 1))))
    have HX2 := hide (obj_dec hx)
    have HG2 := hide (grown_cell W Bx 4 (.int .i64 (x.1.left - 1)))
    have HBO := hide hA.bo
    have HK2 : Hid (KeepsFrom W1.heap.size W (W.setCell ⟨Bx, 4, none⟩ (.int .i64 (x.1.left - 1)))) := (KeepsOthers.setCell _ _ _).from _
    clear hA hr hx hown
    by_cases hlv : 1 < x.1.left
    · have hb1 : decide (0 < x.1.left - 1) = true := by simp; omega
      gi_wp2_with fail
      clear x0 x1 x2 x3 x4 f4
      generalize W.setCell ⟨Bx, 4, none⟩ (.int .i64 (x.1.left - 1)) = W2 at *
      obtain ⟨x0, x1, x2, x3, x4⟩ := five_of HX2.out
      have d0 := HA2.out.bt.cell
      have d1 := HA2.out.tb.c1
      obtain ⟨w3, hst, hL3, hg3⟩ := HA2.out.tb.map.drew.store (dec x.1)
      have HL3 := hide hL3
      have HG3 := hide (grown_drew hg3)
      clear hL3 hg3
      simp only [dec] at hst
      simp only [dec] at x0 x1 x2 x3 x4
      have HS3 : Hid (w3.cell? ⟨w.heap.size, 0, none⟩ = some (.pointer (some ⟨b, 0, none⟩)) ∧ w3.cell? ⟨b, 1, none⟩ = some (.map (some m)) ∧ w3.cell? ⟨Bx, 0, none⟩ = some (.int .i64 x.1.job) ∧ w3.cell? ⟨Bx, 1, none⟩ = some (.int .i64 x.1.bdg) ∧ w3.cell? ⟨Bx, 2, none⟩ = some (.int .i64 x.1.node) ∧ w3.cell? ⟨Bx, 3, none⟩ = some (.int .i64 x.1.life) ∧ w3.cell? ⟨Bx, 4, none⟩ = some (.int .i64 (x.1.left - 1))) := by
        have hB : some Bx ≠ some m := fun e => by injection e with e; omega
        exact ⟨HG3.out.cell d0 (fun e => by injection e with e; have e : w.heap.size = m := e; omega), HG3.out.cell d1 (fun e => HA2.out.tb.ne (by injection e)), HG3.out.cell x0 hB, HG3.out.cell x1 hB, HG3.out.cell x2 hB, HG3.out.cell x3 hB, HG3.out.cell x4 hB⟩
      refine round_held (S := fun w' => w'.cell? ⟨w.heap.size, 0, none⟩ = some (.pointer (some ⟨b, 0, none⟩)) ∧ w'.cell? ⟨b, 1, none⟩ = some (.map (some m)) ∧ w'.cell? ⟨Bx, 0, none⟩ = some (.int .i64 x.1.job) ∧ w'.cell? ⟨Bx, 1, none⟩ = some (.int .i64 x.1.bdg) ∧ w'.cell? ⟨Bx, 2, none⟩ = some (.int .i64 x.1.node) ∧ w'.cell? ⟨Bx, 3, none⟩ = some (.int .i64 x.1.life) ∧ w'.cell? ⟨Bx, 4, none⟩ = some (.int .i64 (x.1.left - 1))) (by kernel_rfl) (by kernel_rfl) ⟨d0, d1, x0, x1, x2, x3, x4⟩ (fun hHeld => ?_)
      refine wpAnyH_take (i := 0) (v := (.pointer (some ⟨b, 0, none⟩))) rfl (by kernel_rfl) (by kernel_rfl) (by kernel_rfl) (fun _ _ _ h => good_panic h) (Or.inl ⟨by rfl, fun w1 hSw => by obtain ⟨s0, s1, s2, s3, s4, s5, s6⟩ := hSw; clear hHeld d0 d1 x0 x1 x2 x3 x4; go_simp⟩) hHeld ?_
      simp only [Act.put, List.setIfInBounds_toArray]
      refine wpAnyH_take (i := 1) (v := (.pointer (some ⟨b, 0, none⟩))) rfl (by kernel_rfl) (by kernel_rfl) (by kernel_rfl) (fun _ _ _ h => good_panic h) (Or.inl ⟨by rfl, fun w1 hSw => by obtain ⟨s0, s1, s2, s3, s4, s5, s6⟩ := hSw; clear hHeld d0 d1 x0 x1 x2 x3 x4; go_simp⟩) hHeld ?_
      simp only [Act.put]
      refine wpAnyH_take (i := 2) (v := (.pointer (some ⟨b, 1, none⟩))) rfl (by kernel_rfl) (by kernel_rfl) (by kernel_rfl) (fun _ _ _ h => good_panic h) (Or.inl ⟨by rfl, fun w1 hSw => by obtain ⟨s0, s1, s2, s3, s4, s5, s6⟩ := hSw; clear hHeld d0 d1 x0 x1 x2 x3 x4; go_simp⟩) hHeld ?_
      simp only [Act.put]
      refine wpAnyH_take (i := 3) (v := (.map (some m))) rfl (by kernel_rfl) (by kernel_rfl) (by kernel_rfl) (fun _ _ _ h => good_panic h) (Or.inl ⟨by rfl, fun w1 hSw => by obtain ⟨s0, s1, s2, s3, s4, s5, s6⟩ := hSw; clear hHeld d0 d1 x0 x1 x2 x3 x4; go_simp⟩) hHeld ?_
      simp only [Act.put]
      refine wpAnyH_take (i := 4) (v := (.pointer (some ⟨Bx, 1, none⟩))) rfl (by kernel_rfl) (by kernel_rfl) (by kernel_rfl) (fun _ _ _ h => good_panic h) (Or.inl ⟨by rfl, fun w1 hSw => by obtain ⟨s0, s1, s2, s3, s4, s5, s6⟩ := hSw; clear hHeld d0 d1 x0 x1 x2 x3 x4; go_simp⟩) hHeld ?_
      simp only [Act.put]
      refine wpAnyH_take (i := 5) (v := (.int .i64 x.1.bdg)) rfl (by kernel_rfl) (by kernel_rfl) (by kernel_rfl) (fun _ _ _ h => good_panic h) (Or.inl ⟨by rfl, fun w1 hSw => by obtain ⟨s0, s1, s2, s3, s4, s5, s6⟩ := hSw; clear hHeld d0 d1 x0 x1 x2 x3 x4; go_simp⟩) hHeld ?_
      simp only [Act.put]
      refine wpAnyH_take (i := 6) (v := (.agg #[.int .i64 x.1.job, .int .i64 x.1.bdg, .int .i64 x.1.node, .int .i64 x.1.life, .int .i64 (x.1.left - 1)])) rfl (by kernel_rfl) (by kernel_rfl) (by kernel_rfl) (fun _ _ _ h => good_panic h) (Or.inl ⟨by rfl, fun w1 hSw => by obtain ⟨s0, s1, s2, s3, s4, s5, s6⟩ := hSw; clear hHeld d0 d1 x0 x1 x2 x3 x4; go_simp⟩) hHeld ?_
      simp only [Act.put]
      refine wpAnyH_ready (rs := [7]) (by kernel_rfl) (by simp) ?_
      refine AllReadyH.cons rfl (fun K hK => ?_) AllReadyH.nil
      go_simp
      refine hK.out _ _ HS3.out (fun hHeld => ?_)
      clear hK K
      refine wpAnyH_done (by kernel_rfl) ?_ _
      clear hHeld
      refine ⟨rfl, ?_⟩
      gi_wp2_with fail
      have hA3 := HA2.out.map3 HL3.out HG3.out
      refine ⟨HK2.out.trans (KeepsFrom.of_grownBy HG3.out (fun j e => by injection e with e; have := HSZ2.out; omega)), (Kl.var (by omega) HBO.out.lt HX.out HG2.out).trans (Kl.others HA2.out.bo.lt ⟨_, HA2.out.bo, rfl⟩ HG3.out (fun r e => by cases e; obtain ⟨es, c, h1⟩ := HA2.out.tb.map.block; exact ⟨_, h1, rfl⟩)), v, ?_⟩
      rw [List.map_append, List.map_singleton]
      exact ⟨hA3.1, hA3.2.1, by rw [tkO_snoc_live hlv]; exact hA3.2.2.1, by rw [tkM_snoc, tk1, if_pos hlv]; exact hA3.2.2.2.1, hA3.2.2.2.2⟩
    · have hb1 : decide (0 < x.1.left - 1) = false := by simp; omega
      gi_wp2_with fail
      clear x0 x1 x2 x3 x4 f4
      generalize W.setCell ⟨Bx, 4, none⟩ (.int .i64 (x.1.left - 1)) = W2 at *
      obtain ⟨x0, x1, x2, x3, x4⟩ := five_of HX2.out
      have d0 := HA2.out.bt.cell
      have d1 := HA2.out.tb.c1
      obtain ⟨w3, hst, hL3, hg3⟩ := HA2.out.tb.map.drew.drop x.1.bdg 0
      have hst2 : ∀ ty, (Builtin.delete_ #[63, 3] ty #[.map (some m), .int .i64 x.1.bdg]).run Try.prog W2.drew = .ok (.tuple #[]) w3 := fun _ => hst
      clear hst
      have HL3 := hide hL3
      have HG3 := hide (grown_drew hg3)
      clear hL3 hg3
      simp only [dec] at x0 x1 x2 x3 x4
      have HS3 : Hid (w3.cell? ⟨w.heap.size, 0, none⟩ = some (.pointer (some ⟨b, 0, none⟩)) ∧ w3.cell? ⟨b, 1, none⟩ = some (.map (some m)) ∧ w3.cell? ⟨Bx, 0, none⟩ = some (.int .i64 x.1.job) ∧ w3.cell? ⟨Bx, 1, none⟩ = some (.int .i64 x.1.bdg) ∧ w3.cell? ⟨Bx, 2, none⟩ = some (.int .i64 x.1.node) ∧ w3.cell? ⟨Bx, 3, none⟩ = some (.int .i64 x.1.life) ∧ w3.cell? ⟨Bx, 4, none⟩ = some (.int .i64 (x.1.left - 1))) := by
        have hB : some Bx ≠ some m := fun e => by injection e with e; omega
        exact ⟨HG3.out.cell d0 (fun e => by injection e with e; have e : w.heap.size = m := e; omega), HG3.out.cell d1 (fun e => HA2.out.tb.ne (by injection e)), HG3.out.cell x0 hB, HG3.out.cell x1 hB, HG3.out.cell x2 hB, HG3.out.cell x3 hB, HG3.out.cell x4 hB⟩
      refine round_held (S := fun w' => w'.cell? ⟨w.heap.size, 0, none⟩ = some (.pointer (some ⟨b, 0, none⟩)) ∧ w'.cell? ⟨b, 1, none⟩ = some (.map (some m)) ∧ w'.cell? ⟨Bx, 0, none⟩ = some (.int .i64 x.1.job) ∧ w'.cell? ⟨Bx, 1, none⟩ = some (.int .i64 x.1.bdg) ∧ w'.cell? ⟨Bx, 2, none⟩ = some (.int .i64 x.1.node) ∧ w'.cell? ⟨Bx, 3, none⟩ = some (.int .i64 x.1.life) ∧ w'.cell? ⟨Bx, 4, none⟩ = some (.int .i64 (x.1.left - 1))) (by kernel_rfl) (by kernel_rfl) ⟨d0, d1, x0, x1, x2, x3, x4⟩ (fun hHeld => ?_)
      refine wpAnyH_take (i := 0) (v := (.pointer (some ⟨b, 0, none⟩))) rfl (by kernel_rfl) (by kernel_rfl) (by kernel_rfl) (fun _ _ _ h => good_panic h) (Or.inl ⟨by rfl, fun w1 hSw => by obtain ⟨s0, s1, s2, s3, s4, s5, s6⟩ := hSw; clear hHeld d0 d1 x0 x1 x2 x3 x4; go_simp⟩) hHeld ?_
      simp only [Act.put, List.setIfInBounds_toArray]
      refine wpAnyH_take (i := 1) (v := (.pointer (some ⟨b, 0, none⟩))) rfl (by kernel_rfl) (by kernel_rfl) (by kernel_rfl) (fun _ _ _ h => good_panic h) (Or.inl ⟨by rfl, fun w1 hSw => by obtain ⟨s0, s1, s2, s3, s4, s5, s6⟩ := hSw; clear hHeld d0 d1 x0 x1 x2 x3 x4; go_simp⟩) hHeld ?_
      simp only [Act.put]
      refine wpAnyH_take (i := 2) (v := (.pointer (some ⟨b, 1, none⟩))) rfl (by kernel_rfl) (by kernel_rfl) (by kernel_rfl) (fun _ _ _ h => good_panic h) (Or.inl ⟨by rfl, fun w1 hSw => by obtain ⟨s0, s1, s2, s3, s4, s5, s6⟩ := hSw; clear hHeld d0 d1 x0 x1 x2 x3 x4; go_simp⟩) hHeld ?_
      simp only [Act.put]
      refine wpAnyH_take (i := 3) (v := (.map (some m))) rfl (by kernel_rfl) (by kernel_rfl) (by kernel_rfl) (fun _ _ _ h => good_panic h) (Or.inl ⟨by rfl, fun w1 hSw => by obtain ⟨s0, s1, s2, s3, s4, s5, s6⟩ := hSw; clear hHeld d0 d1 x0 x1 x2 x3 x4; go_simp⟩) hHeld ?_
      simp only [Act.put]
      refine wpAnyH_take (i := 4) (v := (.pointer (some ⟨Bx, 1, none⟩))) rfl (by kernel_rfl) (by kernel_rfl) (by kernel_rfl) (fun _ _ _ h => good_panic h) (Or.inl ⟨by rfl, fun w1 hSw => by obtain ⟨s0, s1, s2, s3, s4, s5, s6⟩ := hSw; clear hHeld d0 d1 x0 x1 x2 x3 x4; go_simp⟩) hHeld ?_
      simp only [Act.put]
      refine wpAnyH_take (i := 5) (v := (.int .i64 x.1.bdg)) rfl (by kernel_rfl) (by kernel_rfl) (by kernel_rfl) (fun _ _ _ h => good_panic h) (Or.inl ⟨by rfl, fun w1 hSw => by obtain ⟨s0, s1, s2, s3, s4, s5, s6⟩ := hSw; clear hHeld d0 d1 x0 x1 x2 x3 x4; go_simp⟩) hHeld ?_
      simp only [Act.put]
      refine wpAnyH_ready (rs := [6]) (by kernel_rfl) (by simp) ?_
      refine AllReadyH.cons rfl (fun K hK => ?_) AllReadyH.nil
      go_simp
      refine hK.out _ _ HS3.out (fun hHeld => ?_)
      clear hK K
      refine wpAnyH_done (by kernel_rfl) ?_ _
      clear hHeld
      refine ⟨rfl, ?_⟩
      have hA3 := HA2.out.map3 HL3.out HG3.out
      obtain ⟨ad, cap, hv⟩ := own_slice hA3.2.2.1
      subst hv
      obtain ⟨s0, s1, s2, s3, s4, s5, s6⟩ := HS3.out
      have HA3 := hide hA3
      have do3 := hA3.2.1.cell
      have fo3 := hA3.2.1.frozen
      have hsz3 : w.heap.size ≤ w3.heap.size := hA3.2.2.2.2.size
      have HBX : Hid (∀ w5, (w3.alloc (dec x.1).obj).grownBy w5 (Value.slice ad (tkO (pre.map Subtype.val)).length cap).ownBlock → Boxed w5 (w.heap.size + 1) 42 (.slice ad (tkO (pre.map Subtype.val)).length cap)) := fun w5 hg => (HA3.out.2.1.alloc _).kept hg (Ne.symm (box_not_row (HA3.out.2.1.alloc (dec x.1).obj) (own_alloc HA3.out.2.2.1 (dec x.1).obj) (by decide)))
      have HAL := hide (own_alloc hA3.2.2.1 (dec x.1).obj)
      have hln : (tkO (pre.map Subtype.val)).length ≤ 12 := by
        have := tkO_len (pre.map Subtype.val)
        rw [List.length_map] at this
        omega
      have HW23 : Hid (Kl (fun k => k = w.heap.size + 1) (w.heap.size + 1) W w3) := (Kl.var (by omega) HBO.out.lt HX.out HG2.out).trans (Kl.others HA2.out.bo.lt ⟨_, HA2.out.bo, rfl⟩ HG3.out (fun r e => by cases e; obtain ⟨es, c, h1⟩ := HA2.out.tb.map.block; exact ⟨_, h1, rfl⟩))
      have HKF : Hid (KeepsFrom W1.heap.size W w3) := HK2.out.trans (KeepsFrom.of_grownBy HG3.out (fun j e => by injection e with e; have := HSZ2.out; omega))
      generalize hO : tkO (pre.map Subtype.val) = O at *
      have HO := hide hO
      clear hA3 hO d0 d1 x0 x1 x2 x3 x4 hst2 HA2 HL3 HG3 HX HX2 HG2 HBO HK2 HS3
      gi_wp2_with (gi_at_builtin; refine wpListIn_append_lies rfl _ _ 42 rfl w.heap.size 54 i0 lz0.val 5 40 Try.underlying42 hi0 hz0 hz1 hz2 rfl (by decide) (.slice ad O.length cap) O.length (lcs O) rfl HAL.out ⟨w3.heap.size, 0, none⟩ 1 1 (dec x.1).cs rfl rfl (World.news_of_block (heap_alloc_new w3 (dec x.1).obj)) (lcs_one_cell [dec x.1]) (by decide) (by unfold maxLen; omega) (by omega) (by simp; omega) (w3.heap.size + 1) (by simp) ?_; intro g5 cap5 w5 hown5 hgrow5 hg5 _; (have HG55 := hide hg5); clear hg5; (have HO5 := hide hown5); (have HG5 := hide hgrow5); (have b5 := HBX.out _ hgrow5); (have d5 := b5.cell); (have f5 := b5.frozen); (have H5 := hide b5); clear b5 hown5 hgrow5)
      have hko : KeepsOthers w3 w5 := (KeepsOthers.alloc w3 (dec x.1).obj).trans (ko_grown HG5.out (own_cellsB HAL.out))
      have hko2 := hko.trans (KeepsOthers.setCell w5 ⟨w.heap.size + 1, 0, none⟩ (.slice (some ⟨g5, 0, none⟩) (O.length + 1) cap5))
      have hb6 := H5.out.set (.slice (some ⟨g5, 0, none⟩) (O.length + 1) cap5)
      refine ⟨HKF.out.trans (hko2.from _), HW23.out.trans ⟨hko2.size, fun k o hk ho _ hn => ?_, fun k hk => ?_⟩, .slice (some ⟨g5, 0, none⟩) (O.length + 1) cap5, ?_⟩
      · have h1 : k ≠ w.heap.size + 1 := fun e => hn (.inl e)
        have h2 : some k ≠ (Value.slice ad O.length cap).ownBlock := fun e => hn (.inr ⟨_, do3, e.symm⟩)
        refine (Below.heap_setCell w5 ⟨w.heap.size + 1, 0, none⟩ _ k h1).trans ?_
        have h3 := lt_of_block hk
        exact (HG5.out.block k (by simp; omega) h2).trans ((Below.heap_alloc w3 _ k h3).trans hk)
      · rcases hk with hk | ⟨u, h1, h2⟩
        · exact .inl (.inl hk)
        · rw [hb6.cell] at h1
          injection h1 with h1
          subst h1
          simp only [Value.ownBlock, Option.some.injEq] at h2
          subst h2
          rcases HG55.out with h3 | h3
          · exact .inl (.inr ⟨_, do3, h3⟩)
          · exact .inr (by omega)
      · rw [List.map_append, List.map_singleton]
        have hlow : ∀ j, j < w.heap.size → (w5.setCell ⟨w.heap.size + 1, 0, none⟩ (.slice (some ⟨g5, 0, none⟩) (O.length + 1) cap5)).heap[j]? = w3.heap[j]? := fun j hj => by
          refine (Below.heap_setCell w5 ⟨w.heap.size + 1, 0, none⟩ _ j (by show j ≠ w.heap.size + 1; omega)).trans ?_
          refine (HG5.out.block j (by simp; omega) (fun e => ?_)).trans (Below.heap_alloc w3 _ j (by omega))
          have := (HAL.out.lt j e.symm).1
          omega
        have hbt : Boxed w5 w.heap.size 23 (.pointer (some ⟨b, 0, none⟩)) := (HA3.out.1.alloc _).kept HG5.out (Ne.symm (box_not_row (HA3.out.1.alloc (dec x.1).obj) HAL.out (by decide)))
        refine ⟨hbt.other (by omega) _, hb6, ?_, ?_, ?_⟩
        · rw [tkO_snoc_over (Int.not_lt.2 hlv), HO.out, lcs_snoc, List.length_append, List.length_singleton]
          exact own_set HO5.out H5.out (by decide)
        · rw [tkM_snoc, tk1, if_neg (Int.not_lt.2 hlv)]
          exact HA3.out.2.2.2.1.keep (hlow b hlb) (hlow m hlm)
        · have hg3 := HA3.out.2.2.2.2
          exact ⟨HG5.out.os.trans hg3.os, HG5.out.tape.trans hg3.tape, HG5.out.output.trans hg3.output, Nat.le_trans hg3.size hko2.size, fun j hj hne => (hlow j hj).trans (hg3.block j hj hne)⟩
  case done =>
    rintro D ys W hD hp ⟨v, hA⟩ hK
    rw [hp] at hA
    obtain ⟨ad, cap, hv⟩ := own_slice hA.row
    subst hv
    have d2 := hA.bo.cell
    have HA1 := hide hA
    have HK := hide hK
    clear hA hK hp
    gi_wp2_with fail
    refine ⟨by simp, .inl ⟨_, _, rfl, run_takeDeferred HK.out, ?_⟩⟩
    have hgp := grownBy_putObj' W D (.deferred none)
    have hA2 := HA1.out.others hlb hlm (Nat.le_refl _) hgp (fun r e => by cases e; exact ⟨by have := HSZ2.out; omega, _, HK.out, rfl⟩)
    have hrow := hA2.row
    have htb := hA2.tb
    refine ⟨.slice ad (tkO L).length cap, ?_, _, rfl, hrow, htb, hA2.gr⟩
    simp [results, Try.f19, go_sem]
  case stop =>
    rintro D c pre W hD _ h hK
    exact h.elim
end Go.Proofs.Ytjpcghkdedldiaa
