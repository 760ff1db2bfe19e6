import Derived.Test.YtjpcghkdedldiaaLsO
namespace Go.Proofs.Ytjpcghkdedldiaa
open Go.RowKit Go.Shelf

attribute [local go_sem] Oper.semAt_some

/-- where the law's 'all' stands -/
structure Al (w : World) (H : Nat) (n : Int) (pre : List Lz) (v : Value) (W : World) : Prop where
  bm : Boxed W H 3 (.int .i64 n)
  bl : Boxed W (H + 3) 42 v
  row : W.ownsRow H 54 5 v pre.length (lcs pre)
  low : Below H w W
theorem Al.others {w W W' : World} {H : Nat} {n : Int} {pre : List Lz} {v : Value} {row : Option Nat} (h : Al w H n pre v W) (hw : H ≤ w.heap.size) (hg : W.grownBy W' row) (hr : ∀ q, row = some q → H ≤ q ∧ ∃ o : Obj, W.heap[q]? = some o ∧ o.isCells = false) : Al w H n pre v W' := by
  have hr2 : ∀ q, row = some q → ∃ o : Obj, W.heap[q]? = some o ∧ o.isCells = false := fun q e => (hr q e).2
  exact ⟨box_others h.bm hg hr2, box_others h.bl hg hr2, own_others h.row hg hr2, h.low.grown hg (Nat.le_trans hw h.low.size) (fun k e => (hr k e).1)⟩

theorem funcNilIn (d f : Nat) (bs : Array Value) (w : World) : (Op.equalIn (d + 1) 59 (.func (.func f) #[] bs) .nilFunc).run Try.prog w = .ok false w := by
  simp [Op.equalIn, run_underlying Try.underlying59]
theorem funcNil (f : Nat) (bs : Array Value) (w : World) : (binOp .eql 59 (.func (.func f) #[] bs) .nilFunc).run Try.prog w = .ok (.bool false) w := by
  simp only [binOp]
  simp [show Op.equal 59 (.func (.func f) #[] bs) .nilFunc = Op.equalIn (9999 + 1) 59 (.func (.func f) #[] bs) .nilFunc from rfl, funcNilIn 9999 f bs w]

set_option maxRecDepth 100000 in
set_option maxHeartbeats 4000000 in
theorem lall_any {w : World} {b m : Nat} {T : Int} {L : List Lz} (hT : Tb w b m T L) (hl : L.length ≤ 12) (n : Nat) :
    Calls Try.prog 16 #[.pointer (some ⟨b, 0, none⟩), .int .i64 (n : Int)] w fun e w' => ∃ v, e = .returned (.tuple #[v, .bool true]) ∧ w'.ownsRow w.heap.size 54 5 v (L.take n).length (lcs (L.take n)) ∧ Below w.heap.size w w' := by
  obtain ⟨i0, hi0, hz0, hz1, hz2⟩ := info_parts Try.infoL
  refine (callsIn_wide (n := 6)).1 ?_
  refine callsIn_of_wp_marks Try.func16 rfl trivial ?_ rfl
  simp only [Try.ntmps16, List.size_toArray, List.length_cons, List.length_nil, Nat.reduceAdd, Nat.reduceSub, Array.replicate_succ, Array.replicate_zero, List.push_toArray, List.append_toArray, List.nil_append, List.cons_append]
  have HT := hide (hT.alloc (.cells #[.int .i64 (n : Int)] 3))
  clear hT
  gi_wp2_with fail
  refine ⟨trivial, (callsIn_wide.2 (all_any b (w.alloc (.cells #[.int .i64 (n : Int)] 3)))).mono ?_⟩
  rintro e w1 ⟨rfl, rfl⟩
  have hfn := fun w => funcNil 32 #[.pointer (some ⟨(w : World).heap.size + 1, 0, none⟩)] w
  have hfn2 := fun x W => funcNil 32 #[x] W
  clear hfn
  gi_wp2_with fail
  have b0 := (((Boxed.new w 3 (.int .i64 (n : Int))).alloc (.cells #[.pointer (some ⟨b, 0, none⟩)] 23)).alloc (.cells #[] 54)).alloc (.cells #[.slice (some ⟨w.heap.size + 2, 0, none⟩) 0 0] 42)
  have b1 := ((Boxed.new (w.alloc (.cells #[.int .i64 (n : Int)] 3)) 23 (.pointer (some ⟨b, 0, none⟩))).alloc (.cells #[] 54)).alloc (.cells #[.slice (some ⟨w.heap.size + 2, 0, none⟩) 0 0] 42)
  have b3 := Boxed.new (((w.alloc (.cells #[.int .i64 (n : Int)] 3)).alloc (.cells #[.pointer (some ⟨b, 0, none⟩)] 23)).alloc (.cells #[] 54)) 42 (.slice (some ⟨w.heap.size + 2, 0, none⟩) 0 0)
  rw [World.size_alloc] at b1
  rw [World.size_alloc, World.size_alloc, World.size_alloc] at b3
  have hr0 := own_alloc (World.ownsRow_made (base := w.heap.size) (e := 54) (size := 5) ((w.alloc (.cells #[.int .i64 (n : Int)] 3)).alloc (.cells #[.pointer (some ⟨b, 0, none⟩)] 23)) #[] 0 (by simp; omega) (Nat.zero_le _) rfl) (.cells #[.slice (some ⟨w.heap.size + 2, 0, none⟩) 0 0] 42)
  rw [World.size_alloc, World.size_alloc] at hr0
  have hlow := ((((Below.refl _ w).alloc (Nat.le_refl _) (.cells #[.int .i64 (n : Int)] 3)).alloc (by simp) (.cells #[.pointer (some ⟨b, 0, none⟩)] 23)).alloc (by simp; omega) (.cells #[] 54)).alloc (by simp; omega) (.cells #[.slice (some ⟨w.heap.size + 2, 0, none⟩) 0 0] 42)
  have HT2 := hide (((HT.out.alloc (.cells #[.pointer (some ⟨b, 0, none⟩)] 23)).alloc (.cells #[] 54)).alloc (.cells #[.slice (some ⟨w.heap.size + 2, 0, none⟩) 0 0] 42))
  have HSZ2 : Hid (((((w.alloc (.cells #[.int .i64 (n : Int)] 3)).alloc (.cells #[.pointer (some ⟨b, 0, none⟩)] 23)).alloc (.cells #[] 54)).alloc (.cells #[.slice (some ⟨w.heap.size + 2, 0, none⟩) 0 0] 42)).heap.size = w.heap.size + 4) := by show _ = _; simp
  have HA0 : Hid (Al w w.heap.size n [] (.slice (some ⟨w.heap.size + 2, 0, none⟩) 0 0) ((((w.alloc (.cells #[.int .i64 (n : Int)] 3)).alloc (.cells #[.pointer (some ⟨b, 0, none⟩)] 23)).alloc (.cells #[] 54)).alloc (.cells #[.slice (some ⟨w.heap.size + 2, 0, none⟩) 0 0] 42))) := ⟨b0, b3, hr0, hlow⟩
  have HBs := hide b1.cell
  clear b0 b1 b3 hr0 hlow HT hfn2
  generalize (((w.alloc (.cells #[.int .i64 (n : Int)] 3)).alloc (.cells #[.pointer (some ⟨b, 0, none⟩)] 23)).alloc (.cells #[] 54)).alloc (.cells #[.slice (some ⟨w.heap.size + 2, 0, none⟩) 0 0] 42) = W1 at *
  refine wpIn_rangeFunc_ownH rfl (by decide) (gf := 32) (lb := #[.pointer (some ⟨w.heap.size + 1, 0, none⟩)]) rfl trivial (enters_of Try.func32 (by kernel_rfl) rfl)
    (all_stops 5 (by decide) (w.heap.size + 1) b m T L (fun k => k = w.heap.size + 3) (w.heap.size + 3) W1 (by have := HSZ2.out; omega) (fun k hk => by
      have h9 := HSZ2.out
      rcases hk with rfl | ⟨v, h1, h2⟩
      · omega
      · rw [HA0.out.bl.cell] at h1; injection h1 with h1; subst h1; simp only [Value.ownBlock, Option.some.injEq] at h2; omega) HBs.out HT2.out hl)
    Kl.trans (fun W k o o' hk ho hc _ => Kl.put (N := W1.heap.size) (by have := HSZ2.out; omega) hk ho hc) (Below.refl _ _) (fun _ => rfl)
    (fun pre W => pre.length ≤ n ∧ ∃ v, Al w w.heap.size n (pre.map Subtype.val) v W)
    (fun c pre W => c = .exit 0 ∧ pre.length = n + 1 ∧ ∃ v, Al w w.heap.size n ((pre.map Subtype.val).take n) v W)
    ?hI ?hIx ⟨Nat.zero_le _, _, HA0.out⟩
    (fun x a' W => ∃ Bx, W.heap[Bx]? = some x.1.obj ∧ a' = { tmps := #[.pointer (some ⟨b, 0, none⟩), .int .i64 (n : Int), undef, .pointer (some ⟨w.heap.size, 0, none⟩), .slice none 0 0, .bool false, .func (.func 32) #[] #[.pointer (some ⟨w.heap.size + 1, 0, none⟩)], .pointer (some ⟨w.heap.size + 3, 0, none⟩), .pointer (some ⟨Bx, 0, none⟩), .pointer (some ⟨b, 0, none⟩), .func (.func 32) #[] #[.pointer (some ⟨w.heap.size + 1, 0, none⟩)], .func (.func 32) #[] #[.pointer (some ⟨w.heap.size + 1, 0, none⟩)], .bool false, .slice (some ⟨w.heap.size + 2, 0, none⟩) 0 0, .func (.func 32) #[] #[.pointer (some ⟨w.heap.size + 1, 0, none⟩)], x.1.val, undef, undef, undef, undef, undef, undef, undef, undef, undef], defers := [] })
    ?hAx ?assign ?body ?done ?stop
  case hI =>
    rintro pre X Y row ⟨h0, v, h1⟩ hg hr
    exact ⟨h0, v, h1.others (Nat.le_refl _) hg (fun q e => ⟨by have := (hr q e).1; have := HSZ2.out; omega, (hr q e).2⟩)⟩
  case hIx =>
    rintro c pre X Y row ⟨h0, h2, v, h1⟩ hg hr
    exact ⟨h0, h2, v, h1.others (Nat.le_refl _) hg (fun q e => ⟨by have := (hr q e).1; have := HSZ2.out; omega, (hr q e).2⟩)⟩
  case hAx =>
    rintro x a' _ X Y row ⟨Bx, h2, h3⟩ hg hr
    refine ⟨Bx, (hg.block Bx (lt_of_block h2) (fun e => ?_)).trans h2, h3⟩
    obtain ⟨_, o, ho, hc⟩ := hr Bx e.symm
    rw [h2] at ho
    cases ho
    cases hc
  case assign =>
    rintro k pre x W K ⟨h0, v, hA⟩ hK
    have hbl := hA.bl.lt
    gi_wp2
    exact hK _ _ ((KeepsOthers.alloc _ _).from _) (Kl.alloc hbl _) ⟨h0, v, hA.others (Nat.le_refl _) (World.grownBy_alloc W _ none) (fun r e => by cases e)⟩ ⟨W.heap.size, heap_alloc_new W _, rfl⟩
  case body =>
    rintro k pre x a' W hk ⟨r, hr⟩ ⟨h0, v, hA⟩ ⟨Bx, hx, rfl⟩ hlen
    have hlm : (pre.map Subtype.val).length = pre.length := List.length_map _
    obtain ⟨ad, cap, hv⟩ := own_slice hA.row
    subst hv
    rw [hlm] at hA
    have d3 := hA.bl.cell
    have f3 := hA.bl.frozen
    have d0 := hA.bm.cell
    obtain ⟨x0, x1, x2, x3, x4⟩ := five_of hx
    have HA := hide hA
    clear hA hx hr
    by_cases hne : pre.length = n
    · have e1 : ((pre.length : Int) == (n : Int)) = true := by rw [hne]; simp
      have HNE := hide hne
      clear hne
      gi_wp2_with fail
      refine ⟨KeepsFrom.refl _ _, rfl, by rw [List.length_append, HNE.out]; rfl, .slice ad pre.length cap, ?_⟩
      have he : ((pre ++ [x]).map Subtype.val).take n = pre.map Subtype.val := by rw [List.map_append, List.take_append_of_le_length (by rw [hlm, HNE.out]; exact Nat.le_refl _), List.take_of_length_le (by rw [hlm, HNE.out]; exact Nat.le_refl _)]
      rw [he]
      exact ⟨HA.out.bm, HA.out.bl, by rw [hlm]; exact by have := HA.out.row; rw [hlm] at this; exact this, HA.out.low⟩
    · have e1 : ((pre.length : Int) == (n : Int)) = false := by simp; omega
      have HNE := hide hne
      have HAL := hide (own_alloc HA.out.row x.1.obj)
      have hsz0 : w.heap.size ≤ W.heap.size := HA.out.low.size
      have HBX : Hid (∀ w3, (W.alloc x.1.obj).grownBy w3 (Value.slice ad pre.length cap).ownBlock → Boxed w3 (w.heap.size + 3) 42 (.slice ad pre.length cap)) := fun w3 hg => (HA.out.bl.alloc _).kept hg (Ne.symm (box_not_row (HA.out.bl.alloc x.1.obj) (own_alloc HA.out.row x.1.obj) (by decide)))
      clear hne
      rw [hlm] at HAL
      gi_wp2_with (gi_at_builtin; refine wpListIn_append_lies rfl _ _ 42 rfl w.heap.size 54 i0 lz0.val 5 40 Try.underlying42 hi0 hz0 hz1 hz2 rfl (by decide) (.slice ad pre.length cap) pre.length (lcs (pre.map Subtype.val)) rfl HAL.out ⟨W.heap.size, 0, none⟩ 1 1 x.1.cs rfl rfl (World.news_of_block (heap_alloc_new W x.1.obj)) (lcs_one_cell [x.1]) (by decide) (by unfold maxLen; omega) (by omega) (by simp; omega) (W.heap.size + 1) (by simp) ?_; intro g5 cap5 w5 hown5 hgrow5 hg5 _; (have HG55 := hide hg5); clear hg5; (have HO5 := hide hown5); (have HG5 := hide hgrow5); (have b5 := HBX.out _ hgrow5); (have d5 := b5.cell); (have f5 := b5.frozen); (have H5 := hide b5); clear b5 hown5 hgrow5)
      have hko : KeepsOthers W w5 := (KeepsOthers.alloc W x.1.obj).trans (ko_grown HG5.out (own_cellsB HAL.out))
      have hko2 := hko.trans (KeepsOthers.setCell w5 ⟨w.heap.size + 3, 0, none⟩ (.slice (some ⟨g5, 0, none⟩) (pre.length + 1) cap5))
      have hb6 := H5.out.set (.slice (some ⟨g5, 0, none⟩) (pre.length + 1) cap5)
      have hlow := (HA.out.low.alloc hsz0 x.1.obj).grown HG5.out (by simp; omega) (fun k e => (HAL.out.lt k e).1)
      refine ⟨hko2.from _, ⟨hko2.size, fun k o hk ho _ hn => ?_, fun k hk => ?_⟩, by rw [List.length_append]; have := HNE.out; simp; omega, .slice (some ⟨g5, 0, none⟩) (pre.length + 1) cap5, ?_⟩
      · have h1 : k ≠ w.heap.size + 3 := fun e => hn (.inl e)
        have h2 : some k ≠ (Value.slice ad pre.length cap).ownBlock := fun e => hn (.inr ⟨_, d3, e.symm⟩)
        refine (Below.heap_setCell w5 ⟨w.heap.size + 3, 0, none⟩ _ k h1).trans ?_
        have h3 := lt_of_block hk
        exact (HG5.out.block k (by simp; omega) h2).trans ((Below.heap_alloc W _ k h3).trans hk)
      · rcases hk with hk | ⟨u, h1, h2⟩
        · exact .inl (.inl hk)
        · rw [hb6.cell] at h1
          injection h1 with h1
          subst h1
          simp only [Value.ownBlock, Option.some.injEq] at h2
          subst h2
          rcases HG55.out with h3 | h3
          · exact .inl (.inr ⟨_, d3, h3⟩)
          · exact .inr (by omega)
      · have hbt : Boxed w5 w.heap.size 3 (.int .i64 (n : Int)) := (HA.out.bm.alloc _).kept HG5.out (Ne.symm (box_not_row (HA.out.bm.alloc x.1.obj) HAL.out (by decide)))
        refine ⟨hbt.other (by omega) _, hb6, ?_, hlow.setCell (p := ⟨w.heap.size + 3, 0, none⟩) (by show w.heap.size ≤ w.heap.size + 3; omega) _⟩
        rw [List.map_append, List.map_singleton, lcs_snoc, List.length_append, hlm]
        exact own_set HO5.out H5.out (by decide)
  case done =>
    rintro D ys W hD hp ⟨h0, v, hA⟩ hK
    have hyl : ys.length = L.length := by have := congrArg List.length hp; rwa [List.length_map] at this
    rw [hp] at hA
    obtain ⟨ad, cap, hv⟩ := own_slice hA.row
    subst hv
    have d2 := hA.bl.cell
    have HA1 := hide hA
    have HK := hide hK
    have hle : L.length ≤ n := by omega
    clear hA hK hp h0 hyl
    gi_wp2_with fail
    refine ⟨by simp, .inl ⟨_, _, rfl, run_takeDeferred HK.out, ?_⟩⟩
    have hgp := grownBy_putObj' W D (.deferred none)
    have hA2 := HA1.out.others (Nat.le_refl _) hgp (fun r e => by cases e; exact ⟨by have := HSZ2.out; omega, _, HK.out, rfl⟩)
    refine ⟨.tuple #[.slice ad L.length cap, .bool true], ?_, _, rfl, by rw [List.take_of_length_le hle]; exact hA2.row, hA2.low⟩
    simp [results, Try.f16, go_sem]
  case stop =>
    rintro D c pre W hD ⟨k, hk, hpk⟩ ⟨rfl, hpl, v, hA⟩ hK
    have hk2 : k = n + 1 := by
      have := congrArg List.length hpk
      rw [List.length_map, List.length_take] at this
      omega
    rw [hpk, List.take_take, hk2, Nat.min_eq_left (Nat.le_succ n)] at hA
    obtain ⟨ad, cap, hv⟩ := own_slice hA.row
    subst hv
    have d2 := hA.bl.cell
    have HA1 := hide hA
    have HK := hide hK
    clear hA hK hpk
    gi_wp2_with fail
    refine ⟨by simp, .inl ⟨_, _, rfl, run_takeDeferred HK.out, ?_⟩⟩
    have hgp := grownBy_putObj' W D (.deferred none)
    have hA2 := HA1.out.others (Nat.le_refl _) hgp (fun r e => by cases e; exact ⟨by have := HSZ2.out; omega, _, HK.out, rfl⟩)
    refine ⟨.tuple #[.slice ad (L.take n).length cap, .bool true], ?_, _, rfl, hA2.row, hA2.low⟩
    simp [results, Try.f16, go_sem]
end Go.Proofs.Ytjpcghkdedldiaa
