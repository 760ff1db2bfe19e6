import Derived.Test.YtapcmmljdpallaaSkJ
namespace Go.Proofs.Ytapcmmljdpallaa.K
open Go.RowKit Go.MapKept Go.Shelf
set_option maxRecDepth 8000

/-- without its slice -/
def cl (x : Az) : Az := ⟨x.job, x.bdg, none, 0, x.pcs⟩
theorem rise_cl {L : List Az} (h : Rise L) : Rise (L.map cl) := List.pairwise_map.2 h
theorem has_rise : ∀ (Y : List Az), Y.Pairwise (fun a b => a.job ≠ b.job) → ∃ L, Y.Perm L ∧ Rise L
  | [], _ => ⟨[], .refl _, .nil⟩
  | x :: Y, h => by
    obtain ⟨h1, h2⟩ := List.pairwise_cons.1 h
    obtain ⟨L, hp, hr⟩ := has_rise Y h2
    exact ⟨ins x L, (hp.cons x).trans (ins_perm x L).symm, ins_rise hr fun y hy => Ne.symm (h1 y (hp.mem_iff.2 hy))⟩
theorem rise_len {c : Int} : ∀ {L : List Az} {a : Int}, a < c → Rise L → (∀ x ∈ L, a < x.job ∧ x.job < c) → (L.length : Int) ≤ c - a - 1
  | [], a, h, _, _ => by simp; omega
  | x :: l, a, h, hr, hx => by
    obtain ⟨h1, h2⟩ := List.pairwise_cons.1 hr
    obtain ⟨h3, h4⟩ := hx x (.head _)
    have := rise_len (a := x.job) h4 h2 fun y hy => ⟨h1 y hy, (hx y (.tail _ hy)).2⟩
    rw [List.length_cons]
    omega
theorem Sb.len {w : World} {b m : Nat} {A : List Az} {tv : Value} {T : List Ev} {j : Int} (h : Sb w b m A tv T j) : A.length ≤ 8 := by
  have := rise_len (a := 0) (c := 9) (by decide) h.map.1 fun x hx => by have := h.ok x hx; omega
  omega
theorem Mi.grown {w w' : World} {m r : Nat} {L rest : List Az} {row : Option Nat} (h : Mi w m r L rest) (hg : w.grownBy w' row) (hr : ∀ k, row = some k → ∃ cs t f, w.heap[k]? = some (.cells cs t f)) : Mi w' m r L rest := by
  refine h.keep (hg.block m h.lm.lt fun e => ?_) (hg.block r h.rlt fun e => ?_)
  · obtain ⟨cs, t, f, h1⟩ := hr m e.symm
    obtain ⟨es, c, h2⟩ := h.lm.block
    rw [h1] at h2
    cases h2
  · obtain ⟨cs, t, f, h1⟩ := hr r e.symm
    obtain ⟨o, h2, h3⟩ := h.iter
    rw [h1] at h2
    cases h2
    cases h3
theorem Mi.below {w w' : World} {m r : Nat} {L rest : List Az} (h : Mi w m r L rest) (hb : Below w.heap.size w w') : Mi w' m r L rest := h.keep (hb.block m h.lm.lt) (hb.block r h.rlt)
theorem Mi.same {w w' : World} {m r : Nat} {L rest : List Az} (h : Mi w m r L rest) (hh : w'.heap = w.heap) : Mi w' m r L rest := h.keep (by rw [hh]) (by rw [hh])
theorem acs_snoc (l : List Az) (x : Az) : acs (l ++ [x]) = acs l ++ x.cs := by rw [acs_append, acs_one]
/-- what Artefacts has gathered -/
structure Ga (w : World) (m : Nat) (A : List Az) (v : Value) (Y rest : List Az) (W : World) : Prop where
  row : W.ownsRow w.heap.size 49 3 v Y.length (acs Y)
  pcs : ∀ y ∈ Y, W.ownsRow w.heap.size 9 1 y.sl y.pcs.length (tcs y.pcs)
  mi : Mi W m w.heap.size A rest
  low : Below w.heap.size w W
  perm : (Y.map cl ++ rest.map cl).Perm (A.map cl)
  mem : ∀ x ∈ rest, x ∈ A
/-- what Artefacts answers -/
def ArP (A : List Az) (w : World) (e : Ending) (w' : World) : Prop :=
  ∃ ad g cap Y, e = .returned (.slice ad Y.length cap) ∧ Rs w' ad g 0 Y ∧ Y.map cl = A.map cl ∧ (∀ y ∈ Y, w'.ownsRow w.heap.size 9 1 y.sl y.pcs.length (tcs y.pcs)) ∧ (0 < Y.length → w.heap.size ≤ g) ∧ Below w.heap.size w w'
theorem cl_eq {Y A : List Az} (hR : Rise A) (hp : (Y.map cl).Perm (A.map cl)) : ∃ L, Y.Perm L ∧ Rise L ∧ L.map cl = A.map cl := by
  have h1 : (Y.map cl).Pairwise (fun a b => a.job ≠ b.job) := (hp.pairwise_iff (fun {a b} h => Ne.symm h)).2 ((rise_cl hR).imp fun h => by omega)
  obtain ⟨L, h2, h3⟩ := has_rise Y ((List.pairwise_map (f := cl) (R := fun a b => a.job ≠ b.job)).1 h1)
  exact ⟨L, h2, h3, rise_eq (rise_cl h3) (rise_cl hR) ((h2.map cl).symm.trans hp)⟩
set_option maxHeartbeats 1000000 in
theorem arts_any {w : World} {b m : Nat} {A : List Az} {tv : Value} {T : List Ev} (h : Sb w b m A tv T 0) :
    Calls Try.prog 11 #[.pointer (some ⟨b, 0, none⟩)] w (ArP A w) := by
  obtain ⟨iA, hiA, zA0, zA1, zA2⟩ := info_parts Try.infoA
  have H := hide h
  have hlen := h.len
  have c0 := h.c0
  obtain ⟨W1, hrng, hMi, hg, hsz⟩ := h.map.range
  have HG : Hid (Ga w m A (.slice none 0 0) [] A W1) := hide ⟨World.ownsRow_nil _ _ _ _, fun y hy => absurd hy (List.not_mem_nil), hMi, ⟨hg.os, hg.tape, hg.output, hg.size, fun k hk => hg.block k hk (fun e => by cases e)⟩, .refl _, fun x hx => hx⟩
  clear h hMi hg hsz
  go_enter Try.func11, Try.ntmps11
  go_wp2_with fail
  go_loopw [3, 5] (fun v _ wr => ∃ Y rest : List Az, Hid (Ga w m A v Y rest wr)) (fun _ _ wr => wr.rangeLeft m w.heap.size)
  case atStart => exact ⟨[], A, HG⟩
  case round =>
    clear HG hrng c0
    obtain ⟨Y, rest, HG⟩ := hrel
    have hlY : Y.length + rest.length = A.length := by
      have := HG.out.perm.length_eq
      simpa using this
    obtain ⟨adv, capv, hv⟩ := own_slice HG.out.row
    subst hv
    rcases HG.out.mi.next 0 with ⟨hz, hrun⟩ | ⟨x, rest', W2, hpx, hrun, hM2, hent, hg2, hs2⟩
    · have hrun2 : ∀ ty, (Instr.next (.pointer (some ⟨w.heap.size, 0, none⟩)) false ty).run Try.prog wr = .ok (.tuple #[.bool false]) wr := fun _ => hrun
      have hp := HG.out.perm
      rw [hz, List.map_nil, List.append_nil] at hp
      obtain ⟨L, hL1, hL2, hL3⟩ := cl_eq H.out.map.1 hp
      have HL : Hid (Y.Perm L ∧ Rise L ∧ L.map cl = A.map cl) := hide ⟨hL1, hL2, hL3⟩
      have hLl : L.length = A.length := by have := congrArg List.length hL3; simpa using this
      have hYL : Y.length = L.length := hL1.length_eq
      have HLL : Hid (L.length = A.length ∧ Y.length = L.length) := hide ⟨hLl, hYL⟩
      clear hrun hp hL1 hL2 hL3 hlY hLl hYL
      by_cases hn : L = []
      · have hY0 : Y.length = 0 := by rw [HLL.out.2, hn]; rfl
        rw [hY0]
        clear hY0
        go_wp2_with fail
        refine (sortNil _ _ _ _).mono ?_
        rintro e w2 ⟨rfl, rfl⟩
        go_wp2_with fail
        go_ret
        refine ⟨adv, 0, capv, [], rfl, ⟨fun h => absurd h (by decide), fun i hi => absurd hi (by simp)⟩, ?_, fun y hy => absurd hy (List.not_mem_nil), fun h => absurd h (by decide), HG.out.low⟩
        rw [← HL.out.2.2, hn]
      · have HS := hide (sortFunc_any HG.out.row HL.out.1 HL.out.2.1 (by have := HLL.out.1; omega) hn)
        have HN := hide hn
        clear hn
        go_wp2_with fail
        refine HS.out.mono ?_
        rintro e w2 ⟨rfl, g, cap2, hv, hg, hR, hgr⟩
        have HV := hide hv
        have HG2 := hide hg
        have HR2 := hide hR
        have HGR := hide hgr
        clear hv hg hR hgr
        go_wp2_with fail
        go_ret
        refine ⟨_, g, cap2, L, congrArg Ending.returned HV.out, HR2.out, HL.out.2.2, fun y hy => ?_, fun _ => HG2.out, HG.out.low.grown HGR.out HG.out.low.size (fun k e => by cases e; exact HG2.out)⟩
        refine own_keep (HG.out.pcs y (HL.out.1.mem_iff.2 hy)) fun k e => HGR.out.block k ((HG.out.pcs y (HL.out.1.mem_iff.2 hy)).lt k e).2 (fun e2 => ?_)
        refine own_apart HG.out.row (HG.out.pcs y (HL.out.1.mem_iff.2 hy)) (by decide) k ?_ e
        rw [HV.out]
        exact e2.symm
    · have hrun2 : ∀ ty, (Instr.next (.pointer (some ⟨w.heap.size, 0, none⟩)) false ty).run Try.prog wr = .ok (.tuple #[.bool true, .int .i64 x.job, x.val]) W2 := fun _ => hrun
      clear hrun
      have HLF : Hid (wr.rangeLeft m w.heap.size = rest.length) := HG.out.mi.left
      have hxr : x ∈ rest := hpx.mem_iff.2 (.head _)
      have hxA := HG.out.mem x hxr
      have HX := hide (H.out.ok x hxA)
      have hlr : rest.length = rest'.length + 1 := by have := hpx.length_eq; simpa using this
      have HMM : Hid (∀ y ∈ rest', y ∈ A) := hide fun y hy => HG.out.mem y (hpx.mem_iff.2 (.tail _ hy))
      have hrr : ∀ k, some w.heap.size = some k → ∃ o : Obj, wr.heap[k]? = some o ∧ o.isCells = false := fun k e => by
        cases e
        obtain ⟨o, h1, h2⟩ := HG.out.mi.iter
        exact ⟨o, h1, Obj.not_cells_of_walk h2⟩
      have hkeep : ∀ {base n size : Nat} {e : TypeId} {v : Value} {xs : List Value}, wr.ownsRow base e size v n xs → W2.ownsRow base e size v n xs := fun ho => own_keep ho fun k e => hg2.block k (ho.lt k e).2 (fun e2 => by
        obtain ⟨o, h1, h2⟩ := hrr k e2.symm
        obtain ⟨cs, h3⟩ := own_type ho k e
        rw [h1] at h3
        cases h3
        cases h2)
      have low2 : Below w.heap.size w W2 := HG.out.low.grown hg2 HG.out.low.size (fun k e => by cases e; exact Nat.le_refl _)
      have hb3 : Below W2.heap.size W2 (W2.alloc x.obj) := below_alloc W2 _
      have HR3 : Hid ((W2.alloc x.obj).ownsRow w.heap.size 49 3 (.slice adv Y.length capv) Y.length (acs Y)) := hide (own_keep (hkeep HG.out.row) fun k e => hb3.block k ((hkeep HG.out.row).lt k e).2)
      have HP3 : Hid (∀ y ∈ Y, (W2.alloc x.obj).ownsRow w.heap.size 9 1 y.sl y.pcs.length (tcs y.pcs)) := hide fun y hy => own_keep (hkeep (HG.out.pcs y hy)) fun k e => hb3.block k ((hkeep (HG.out.pcs y hy)).lt k e).2
      have HM3 := hide (hM2.below hb3)
      have HL3 := hide (low2.alloc (low2.size) x.obj)
      have hS3 : Sb (W2.alloc x.obj) b m A tv T 0 := H.out.below HL3.out
      have HC := hide (apart_any (x := x) (hS3.pcs x hxA (by have := HX.out.1; omega)) HX.out.2.2.2.2)
      have hx3 := heap_alloc_new W2 x.obj
      have hsz3 : (W2.alloc x.obj).heap.size = W2.heap.size + 1 := by simp
      have hlw : w.heap.size ≤ W2.heap.size := low2.size
      clear hkeep hrr hM2 hg2 hs2 hb3 low2 hS3
      obtain ⟨xj, xb, xad, xcap, xps⟩ := x
      obtain ⟨x0, x1, x2, xz⟩ := K.four_of hx3
      dsimp only [Az.val, Az.obj] at HC x0 x1 x2 HR3 HP3 HM3 HL3 hsz3 hrun2 hent
      clear hx3 xz
      go_wp2_with fail
      generalize W2.alloc (.cells #[.int .i64 xj, .int .i64 xb, .slice xad xps.length xcap] 49 (0, 0)) = W3 at *
      refine HC.out.mono ?_
      rintro e W4 ⟨y, rfl, y1, y2, y3, hy, hb4⟩
      obtain ⟨yj, yb, yad, ycap, yps⟩ := y
      simp only at y1 y2 y3
      subst y1; subst y2; subst y3
      have hlow4 := HL3.out.trans (hb4.mono HL3.out.size)
      have HR4 : Hid ((W4.alloc (Az.obj ⟨yj, yb, yad, ycap, yps⟩)).ownsRow w.heap.size 49 3 (.slice adv Y.length capv) Y.length (acs Y)) := hide (own_keep (own_keep HR3.out fun k e => hb4.block k (HR3.out.lt k e).2) fun k e => (below_alloc W4 _).block k (Nat.lt_of_lt_of_le (HR3.out.lt k e).2 hb4.size))
      have HY4 : Hid ((W4.alloc (Az.obj ⟨yj, yb, yad, ycap, yps⟩)).ownsRow w.heap.size 9 1 (.slice yad yps.length ycap) yps.length (tcs yps)) := hide (own_low (own_keep hy fun k e => (below_alloc W4 _).block k (hy.lt k e).2) (by omega))
      have HP4 : Hid (∀ y ∈ Y, (W4.alloc (Az.obj ⟨yj, yb, yad, ycap, yps⟩)).ownsRow w.heap.size 9 1 y.sl y.pcs.length (tcs y.pcs)) := hide fun y hy => own_keep (own_keep (HP3.out y hy) fun k e => hb4.block k ((HP3.out y hy).lt k e).2) fun k e => (below_alloc W4 _).block k (Nat.lt_of_lt_of_le ((HP3.out y hy).lt k e).2 hb4.size)
      have HM4 := hide ((HM3.out.below hb4).below (below_alloc W4 (Az.obj ⟨yj, yb, yad, ycap, yps⟩)))
      have HL4 := hide (hlow4.alloc hlow4.size (Az.obj ⟨yj, yb, yad, ycap, yps⟩))
      have hs4 : w.heap.size ≤ W4.heap.size := hlow4.size
      clear hy hb4 hlow4
      go_wp2_with (at_builtin; refine wpList_append_own _ rfl _ _ 46 rfl w.heap.size 49 iA az0.val 3 40 Try.underlying46 hiA zA0 zA1 zA2 rfl (by decide) (.slice adv Y.length capv) Y.length (acs Y) rfl HR4.out ⟨W4.heap.size, 0, none⟩ 1 1 (Az.cs ⟨yj, yb, yad, ycap, yps⟩) rfl rfl (World.news_of_block (heap_alloc_new W4 _)) (fun u hu => acs_one_cell [⟨yj, yb, yad, ycap, yps⟩] u (by rw [acs_one]; exact hu)) (by unfold maxLen; omega) (by omega) (by rw [World.size_alloc]; omega) ?_; intro v' w6 hown hgrow hnil; have HO6 := hide hown; have HG6 := hide hgrow; clear hown hgrow hnil)
      have hbs : ∀ k, (Value.slice adv Y.length capv).ownBlock = some k → w.heap.size ≤ k := fun k e => (HR4.out.lt k e).1
      have HGa : Ga w m A v' (Y ++ [⟨yj, yb, yad, ycap, yps⟩]) rest' w6 := by
        refine ⟨?_, fun y hy => ?_, HM4.out.grown HG6.out (fun k e => by obtain ⟨cs, h1⟩ := own_type HR4.out k e; exact ⟨cs, _, _, h1⟩), HL4.out.grown HG6.out HL4.out.size hbs, ?_, HMM.out⟩
        · rw [acs_snoc, List.length_append]
          exact HO6.out
        · have hp : (W4.alloc (Az.obj ⟨yj, yb, yad, ycap, yps⟩)).ownsRow w.heap.size 9 1 y.sl y.pcs.length (tcs y.pcs) := by
            rcases List.mem_append.1 hy with h1 | h1
            · exact HP4.out y h1
            · rcases List.mem_singleton.1 h1 with rfl
              exact HY4.out
          exact own_keep hp fun k e => HG6.out.block k (hp.lt k e).2 (fun e2 => own_apart HR4.out hp (by decide) k e2.symm e)
        · refine List.Perm.trans ?_ HG.out.perm
          rw [List.map_append, List.append_assoc]
          exact (List.Perm.refl _).append (hpx.map cl).symm
      refine ⟨⟨_, _, HGa⟩, ?_⟩
      rw [HGa.mi.left, HLF.out]
      omega
end Go.Proofs.Ytapcmmljdpallaa.K
