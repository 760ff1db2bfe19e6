import Derived.Test.YthjngodkpldpfaaGreatDoorMgBL
import Derived.Test.YthjngodkpldpfaaGreatDoorMgBK
import Derived.Great.Walk
import Derived.Deep.WholeRow
import Derived.Laws.AppendOwnNone
import Derived.Deep.DeepCutAuto
import Derived.Test.YthjngodkpldpfaaGreatDoorMgBN

section
namespace Go.Proofs.YthjngodkpldpfaaGreatDoor
open Go.RowKit Go.Shelf

set_option maxRecDepth 20000 in
set_option maxHeartbeats 1000000 in
theorem mclone_any {w : World} {B fuel : Nat} {m : Mc} {v : Value} (h : Mb w B m v fuel) (hv : (m.vs v fuel).toArray.all (·.oneCell') = true) :
    Calls Tryz.prog 13 #[.pointer (some ⟨B, 0, none⟩)] w fun e w' => e = .returned (.pointer (some ⟨w.heap.size, 0, none⟩)) ∧ Mb w' w.heap.size m v fuel ∧ Below w.heap.size w w' := by
  go_enter Tryz.func13, Tryz.ntmps13
  have hsz : (m.vs v fuel).toArray.size = 34 := by
    obtain ⟨r0, r1, r2, r3, r4, r5, r6, r7, s0, s1, s2, s3, s4, s5, s6, s7, p0, p1, p2, p3, p4, p5, p6, p7, hm⟩ := h.l8.cut
    rw [hm]
    rfl
  have hone : (m.vs v fuel).toArray.all (·.oneCell') = true := hv
  refine wp_seq (wp_region_list ?_)
  refine Great.wpList_runTo rfl _ rfl (.pointer none) w (by kernel_rfl) ?_
  show Code.wp _ _ _ _ _
  refine wp_seq (wp_region_list ?_)
  refine Great.wpList_runTo rfl _ rfl (.pointer (some ⟨B, 0, none⟩)) w (by kernel_rfl) ?_
  refine Great.wpList_runTo rfl _ rfl (.pointer (some ⟨B, 0, none⟩)) w (by kernel_rfl) ?_
  refine wpList_load_row rfl 82 _ rfl B (by kernel_rfl) 82 (m.vs v fuel).toArray (0, 0) _ h.blk Tryz.underlying82 rfl (by rw [hsz]; kernel_rfl) ?_
  refine Great.wpList_allocTo rfl _ rfl (.pointer (some ⟨w.heap.size, 0, none⟩)) (.cells ((Im.m0.vs (.slice none 0 0) 0).toArray) 82) (by kernel_rfl) ?_
  refine wpList_store_row rfl 82 _ _ rfl w.heap.size (m.vs v fuel).toArray (by kernel_rfl) (by kernel_rfl) 82 (Im.m0.vs (.slice none 0 0) 0).toArray (heap_alloc_new w _) (by rw [hsz]; kernel_rfl) (by rw [hsz]; rfl) hone ?_
  show Code.wp _ _ _ _ _
  rw [World.setRow_alloc_new]
  go_wp2_with fail
  go_ret
  exact ⟨rfl, ⟨heap_alloc_new w _, h.l8⟩, below_one w _⟩
theorem run_append_nothing {P : Program} {w : World} (base : Nat) (t ty e : TypeId) (i : TypeInfo) (size c : Nat) (ht : P.underlying t = some (.slice e)) (hi : P.info? e = some i)
    (v : Value) (n : Nat) (xs : List Value) (hown : w.ownsRow base e size v n xs) : (Builtin.append_ #[t, t] ty #[v, .slice none 0 c]).run P w = .ok v w := by
  rcases hown.2 with ⟨rfl, rfl⟩ | ⟨g, cap, cur, rfl, _, _, hnc, _⟩
  · simp [Builtin.append_, run_underlying ht, sizeOf, typeInfo, hi, Builtin.lenOf, Builtin.firstCells]
  · simp [Builtin.append_, run_underlying ht, sizeOf, typeInfo, hi, Builtin.lenOf, Builtin.firstCells, hnc, storeCells]
/-- append of what is read, nil or not -/
theorem wpList_append_read {P : Program} {w : World} {ops : Array Oper} {rest : List Oper} {o : Oper} {a : Act} {Q : Exit → Act → World → Prop} (hgd : o.guard = none) (s x : Operand) (t : TypeId)
    (ho : o.op = .call { callee := .builtin .append, args := #[s, x], argTypes := #[t, t] })
    (base : Nat) (e : TypeId) (i : TypeInfo) (z : Value) (size bytes : Nat) (ht : P.underlying t = some (.slice e)) (hi : P.info? e = some i) (hz : i.zero = some z)
    (hsize : i.size = size) (hby : i.bytes = bytes) (hzs : z.cells.size = size) (hsz : 0 < size)
    (v : Value) (n : Nat) (xs : List Value) (hs : a.eval s = v) (hown : w.ownsRow base e size v n xs)
    (ad : Option Addr) (m c : Nat) (ys : List Value) (hx : a.eval x = .slice ad m c) (hlen : ys.length = m * size) (hnone : ad = none → m = 0) (hsrc : ∀ a0, ad = some a0 → ∀ j u, ys[j]? = some u → w.cell? (a0.add j) = some u) (h1 : ∀ u ∈ ys, u.oneCell' = true)
    (h63 : n + m ≤ maxLen) (hbytes : (n + m) * bytes ≤ 140737488355328) (hbase : base ≤ w.heap.size)
    (h : ∀ v' w', w'.ownsRow base e size v' (n + m) (xs ++ ys) → w.grownBy w' v.ownBlock → wpList P ops Q rest (a.put o.dst v') w') : wpList P ops Q (o :: rest) a w := by
  cases ad with
  | none =>
    obtain rfl := hnone rfl
    obtain rfl : ys = [] := List.length_eq_zero_iff.1 (by rw [hlen, Nat.zero_mul])
    have hrun := run_append_nothing (P := P) (w := w) base t o.type e i size c ht hi v n xs hown
    refine wpList_plain hgd fun K hK => ?_
    unfold Oper.wp
    simp [execOp, ho, resolve, invoke, builtin, hs, hx, hrun, Result.andThen]
    exact hK _ _ (h v w (by rw [Nat.add_zero, List.append_nil]; exact hown) ⟨rfl, rfl, rfl, Nat.le_refl _, fun _ _ _ => rfl⟩)
  | some a0 =>
    refine wpList_append_own _ hgd s x t ho base e i z size bytes ht hi hz hsize hby hzs hsz v n xs hs hown a0 m c ys hx hlen (hsrc a0 rfl) h1 h63 hbytes hbase ?_
    intro v' w' h2 h3 _
    exact h v' w' h2 h3
/-- rows of two types are apart -/
theorem rows_apart {w : World} {b1 b2 n1 n2 g : Nat} {v1 v2 : Value} {xs ys : List Value} (h1 : w.ownsRow b1 43 1 v1 n1 xs) (h2 : w.ownsRow b2 3 1 v2 n2 ys) (e : v1.ownBlock = some g) : v2.ownBlock ≠ some g := fun f => by
  rcases h1.2 with ⟨rfl, _⟩ | ⟨g1, c1, cur1, rfl, _, hh1, _⟩
  · cases e
  rcases h2.2 with ⟨rfl, _⟩ | ⟨g2, c2, cur2, rfl, _, hh2, _⟩
  · cases f
  simp only [Value.ownBlock] at e f
  injection e with e
  injection f with f
  subst e f
  rw [hh1] at hh2
  injection hh2 with hh2
  injection hh2 with _ hh2
  exact absurd hh2 (by decide)
theorem un64_one (l : List Nat) : ∀ u ∈ un64 l, u.oneCell' = true := by
  intro u hu
  unfold un64 at hu
  obtain ⟨x, _, rfl⟩ := List.mem_map.1 hu
  rfl
theorem in64_one (l : List Nat) : ∀ u ∈ in64 l, u.oneCell' = true := by
  intro u hu
  unfold in64 at hu
  obtain ⟨x, _, rfl⟩ := List.mem_map.1 hu
  rfl
/-- a row's cells as a source -/
theorem own_src {w : World} {base e n cap : Nat} {ad : Option Addr} {xs : List Value} (h : w.ownsRow base e 1 (.slice ad n cap) n xs) : (ad = none → n = 0) ∧ ∀ a0, ad = some a0 → ∀ j u, xs[j]? = some u → w.cell? (a0.add j) = some u := by
  rcases h.2 with ⟨h2, h3⟩ | ⟨g, cap', cur, hv, hb, hh, _⟩
  · injection h2 with e1 e2 e3
    subst e1
    exact ⟨fun _ => h3, fun a0 e => by cases e⟩
  · injection hv with e1 e2 e3
    subst e1
    refine ⟨(fun e => by cases e), fun a0 e j u hu => ?_⟩
    injection e with e
    subst e
    exact h.cells rfl j u hu
set_option maxRecDepth 20000 in
set_option maxHeartbeats 1000000 in
theorem rclone_any {w : World} {B fuel : Nat} {d : Dc} {ns ps : List Nat} {v nv pv : Value} {xs : List In} (h : Rm w B d ns ps v nv pv xs fuel) (hns : ns.length ≤ 8) (hps : ps.length ≤ 8) :
    Calls Tryz.prog 14 #[.pointer (some ⟨B, 0, none⟩)] w fun e w' => ∃ nv' pv', e = .returned (.pointer (some ⟨w.heap.size, 0, none⟩)) ∧ Rm w' w.heap.size d ns ps v nv' pv' xs fuel ∧ Below w.heap.size w w' := by
  go_enter Tryz.func14, Tryz.ntmps14
  have hsz : (d.vs v nv pv fuel).toArray.size = 19 := by
    obtain ⟨r0, r1, r2, r3, r4, r5, r6, r7, hm⟩ := Dc.cut h.b.r8
    rw [hm]
    rfl
  have hone : (d.vs v nv pv fuel).toArray.all (·.oneCell') = true := by
    obtain ⟨r0, r1, r2, r3, r4, r5, r6, r7, hm⟩ := Dc.cut h.b.r8
    obtain ⟨_, _, rfl⟩ := rown_slice h.n
    obtain ⟨_, _, rfl⟩ := rown_slice h.p
    obtain ⟨_, _, _, rfl, _⟩ := h.c
    rw [hm]
    simp [Dc.vs, Value.oneCell']
  refine wp_seq (wp_region_list ?_)
  refine Great.wpList_runTo rfl _ rfl (.pointer none) w (by kernel_rfl) ?_
  show Code.wp _ _ _ _ _
  refine wp_seq (wp_region_list ?_)
  refine Great.wpList_runTo rfl _ rfl (.pointer (some ⟨B, 0, none⟩)) w (by kernel_rfl) ?_
  refine Great.wpList_runTo rfl _ rfl (.pointer (some ⟨B, 0, none⟩)) w (by kernel_rfl) ?_
  refine wpList_load_row rfl 85 _ rfl B (by kernel_rfl) 85 (d.vs v nv pv fuel).toArray (0, 0) _ h.b.blk Tryz.underlying85 rfl (by rw [hsz]; kernel_rfl) ?_
  refine Great.wpList_allocTo rfl _ rfl (.pointer (some ⟨w.heap.size, 0, none⟩)) (.cells ((⟨0, 0, [0, 0, 0, 0, 0, 0, 0, 0], 0, 0, false, 0, 0⟩ : Dc).vs (.slice none 0 0) (.slice none 0 0) (.slice none 0 0) 0).toArray 85) (by kernel_rfl) ?_
  refine wpList_store_row rfl 85 _ _ rfl w.heap.size (d.vs v nv pv fuel).toArray (by kernel_rfl) (by kernel_rfl) 85 _ (heap_alloc_new w _) (by rw [hsz]; kernel_rfl) (by rw [hsz]; rfl) hone ?_
  show Code.wp _ _ _ _ _
  rw [World.setRow_alloc_new]
  have hC1 : Rb (w.alloc (.cells (d.vs v nv pv fuel).toArray 85)) w.heap.size d v nv pv fuel := ⟨heap_alloc_new w _, h.b.r8⟩
  have hB1 : Below w.heap.size w (w.alloc (.cells (d.vs v nv pv fuel).toArray 85)) := below_one w _
  have hR1 := h.below hB1
  have hs1 : w.heap.size < (w.alloc (.cells (d.vs v nv pv fuel).toArray 85)).heap.size := by simp
  have HH := hide h
  obtain ⟨C, hC⟩ : ∃ C, w.heap.size = C := ⟨_, rfl⟩
  have hBC := h.b.lt
  rw [hC] at hC1 hs1 hBC
  generalize w.alloc (.cells (d.vs v nv pv fuel).toArray 85) = W1 at *
  clear h hone hsz
  simp only [Act.put, List.setIfInBounds_toArray, List.set_cons_zero, List.set_cons_succ]
  obtain ⟨adn, capn, rfl⟩ := rown_slice hR1.n
  obtain ⟨adp, capp, rfl⟩ := rown_slice hR1.p
  obtain ⟨i0, hi0, hz0, hz1, hz2⟩ := info_parts infoU64
  obtain ⟨j0, hj0, hy0, hy1, hy2⟩ := info_parts infoInt
  have g3 : W1.grownBy ((W1.alloc (.cells #[] 43)).alloc (.cells #[] 3)) none := grown_trans (grown_one W1 _ none) (grown_one _ _ none)
  have hsrc1 := own_src (rown_grown hR1.n g3 (fun _ _ => by simp))
  have OWN1 : ((W1.alloc (.cells #[] 43)).alloc (.cells #[] 3)).ownsRow (C + 1) 43 1 (.slice (some ⟨W1.heap.size, 0, none⟩) 0 0) 0 [] := rown_grown (World.ownsRow_made (base := C + 1) (e := 43) (size := 1) W1 #[] 0 (by omega) (by decide) rfl) (grown_one _ _ none) (fun _ _ => by simp)
  have OWN2 : ((W1.alloc (.cells #[] 43)).alloc (.cells #[] 3)).ownsRow (C + 1) 3 1 (.slice (some ⟨W1.heap.size + 1, 0, none⟩) 0 0) 0 [] := by
    have := World.ownsRow_made (base := C + 1) (e := 3) (size := 1) (W1.alloc (.cells #[] 43)) #[] 0 (by rw [World.size_alloc]; omega) (by decide) rfl
    rw [World.size_alloc] at this
    exact this
  have m12 := hR1.b.cell (Dc.g_nv hR1.b.r8 v _ _ fuel)
  have m13 := hR1.b.cell (Dc.g_pv hR1.b.r8 v _ _ fuel)
  have hB1l := hR1.b.lt
  have hul : (un64 ns).length = ns.length * 1 := by unfold un64; simp
  have hil : (in64 ps).length = ps.length * 1 := by unfold in64; simp
  have HR1 := hide hR1
  have HC1 := hide hC1
  have HB1 := hide hB1
  have HO1 := hide OWN1
  have HO2 := hide OWN2
  have HG3 := hide g3
  have HSR := hide hsrc1
  clear hR1 hC1 hB1 OWN1 OWN2 g3 hsrc1
  go_wp2_with (first | (at_builtin; refine wpList_append_read rfl _ _ 83 rfl (C + 1) 43 i0 (.int .u64 0) 1 8 Tryz.underlying83 hi0 hz0 hz1 hz2 rfl (by decide) (.slice (some ⟨W1.heap.size, 0, none⟩) 0 0) 0 [] rfl HO1.out adn ns.length capn (un64 ns) rfl hul HSR.out.1 HSR.out.2 (un64_one ns) (by unfold maxLen; omega) (by omega) (by rw [World.size_alloc, World.size_alloc]; omega) ?_; intro v4 w4 hown4 hgrow4; rw [Nat.zero_add, List.nil_append] at hown4; obtain ⟨ad4, cap4, rfl⟩ := rown_slice hown4; have HOW4 := hide hown4; have HGR4 := hide hgrow4; have HC4 := hide ((HC1.out.grown HG3.out (by simp)).grown hgrow4 (by simp only [Value.ownBlock]; intro e; injection e with e; omega)); have n12 := HC4.out.cell (Dc.g_nv HC4.out.r8 v _ _ fuel); have nz := HC4.out.z; have nlt := HC4.out.lt; have b13 := hgrow4.cell (HG3.out.cell m13 (by simp)) (by simp only [Value.ownBlock]; intro e; injection e with e; omega); have HO5 := hide (rown_grown (rown_grown HO2.out hgrow4 (fun k e e2 => by simp only [Value.ownBlock] at e e2; rw [← e] at e2; injection e2 with e2; omega)) (grown_set w4 C 12 (.slice ad4 ns.length cap4)) (fun k e e2 => by simp only [Value.ownBlock] at e; injection e with e; injection e2 with e2; omega)); have HS5 := hide (own_src (rown_grown (rown_grown (rown_grown HR1.out.p HG3.out (fun _ _ => by simp)) hgrow4 (fun k e e2 => by have := (HH.out.p.lt k e).2; simp only [Value.ownBlock] at e2; injection e2 with e2; omega)) (grown_set w4 C 12 (.slice ad4 ns.length cap4)) (fun k e e2 => by have := (HH.out.p.lt k e).2; injection e2 with e2; omega))); have hs4 := hgrow4.size; clear hown4 hgrow4) | (at_builtin; refine wpList_append_read rfl _ _ 53 rfl (C + 1) 3 j0 (.int .i64 0) 1 8 Tryz.underlying53 hj0 hy0 hy1 hy2 rfl (by decide) (.slice (some ⟨W1.heap.size + 1, 0, none⟩) 0 0) 0 [] rfl HO5.out adp ps.length capp (in64 ps) rfl hil HS5.out.1 HS5.out.2 (in64_one ps) (by unfold maxLen; omega) (by omega) (by simp; omega) ?_; intro v6 w6 hown6 hgrow6; rw [Nat.zero_add, List.nil_append] at hown6; obtain ⟨ad6, cap6, rfl⟩ := rown_slice hown6; have HOW6 := hide hown6; have HGR6 := hide hgrow6; have HC6 := hide ((HC4.out.set (Dc.s_nv HC4.out.r8 v _ _ fuel (.slice ad4 ns.length cap4)) HC4.out.r8).grown hgrow6 (by simp only [Value.ownBlock]; intro e; injection e with e; omega)); have q13 := HC6.out.cell (Dc.g_pv HC6.out.r8 v _ _ fuel); have qz := HC6.out.z; have qlt := HC6.out.lt; clear hown6 hgrow6))
  go_ret
  have gs4 := grown_set w4 C 12 (.slice ad4 ns.length cap4)
  have gs6 := grown_set w6 C 13 (.slice ad6 ps.length cap6)
  have hs6 := HGR6.out.size
  have hs5 : (w4.setCell ⟨C, 12, none⟩ (.slice ad4 ns.length cap4)).heap.size = w4.heap.size := by simp
  have hz3 : ((W1.alloc (.cells #[] 43)).alloc (.cells #[] 3)).heap.size = W1.heap.size + 1 + 1 := by rw [World.size_alloc, World.size_alloc]
  have hF : Below w.heap.size w (w6.setCell ⟨C, 13, none⟩ (.slice ad6 ps.length cap6)) := by
    refine ⟨gs6.os.trans (HGR6.out.os.trans (gs4.os.trans (HGR4.out.os.trans (HG3.out.os.trans HB1.out.os)))), gs6.tape.trans (HGR6.out.tape.trans (gs4.tape.trans (HGR4.out.tape.trans (HG3.out.tape.trans HB1.out.tape)))), gs6.output.trans (HGR6.out.output.trans (gs4.output.trans (HGR4.out.output.trans (HG3.out.output.trans HB1.out.output)))), Nat.le_trans HB1.out.size (Nat.le_trans HG3.out.size (Nat.le_trans HGR4.out.size (Nat.le_trans gs4.size (Nat.le_trans HGR6.out.size gs6.size)))), fun k hk => ?_⟩
    have hkC : k < C := by omega
    exact (gs6.block k (by omega) (by simp; omega)).trans ((HGR6.out.block k (by omega) (by simp only [Value.ownBlock]; intro e; injection e with e; omega)).trans ((gs4.block k (by omega) (by simp; omega)).trans ((HGR4.out.block k (by omega) (by simp only [Value.ownBlock]; intro e; injection e with e; omega)).trans ((HG3.out.block k (by omega) (by simp)).trans (HB1.out.block k hk)))))
  have n5 := rown_grown HOW4.out gs4 (fun k e e2 => by have := (HOW4.out.lt k e).1; injection e2 with e2; omega)
  have n6 := rown_grown n5 HGR6.out (fun k e e2 => rows_apart n5 HO5.out e e2.symm)
  have n7 := rown_grown n6 gs6 (fun k e e2 => by have := (n6.lt k e).1; injection e2 with e2; omega)
  have p7 := rown_grown HOW6.out gs6 (fun k e e2 => by have := (HOW6.out.lt k e).1; injection e2 with e2; omega)
  obtain ⟨cb, off, ccap, hv, hcb, hcc⟩ := HH.out.c
  refine ⟨_, _, by rw [hC]; rfl, ⟨by rw [hC]; exact HC6.out.set (Dc.s_pv HC6.out.r8 v _ _ fuel (.slice ad6 ps.length cap6)) HC6.out.r8, by rw [hC]; exact n7, by rw [hC]; exact p7, fun g e => rows_apart n7 p7 e, ⟨cb, off, ccap, hv, by omega, fun j hj i u hi => ?_⟩⟩, hF⟩
  exact (hF.cell (p := ⟨cb, off + j * 6 + i, none⟩) (show cb < w.heap.size by omega)).trans (hcc j hj i u hi)
end Go.Proofs.YthjngodkpldpfaaGreatDoor
end

section
namespace Go.Proofs.YthjngodkpldpfaaGreatDoor
open Go.RowKit Go.Shelf

set_option maxHeartbeats 400000 in
theorem reg_out {w : World} {B : Nat} (i : Int) (hi : i < 0 ∨ 8 ≤ i) : Calls Tryz.prog 24 #[.pointer (some ⟨B, 0, none⟩), .int .i64 i] w fun e w' => e = .returned (.int .u64 0) ∧ w' = w := by
  by_cases h1 : i < 0
  · go_enter Tryz.func24, Tryz.ntmps24
    go_wp2
    go_ret
    exact ⟨rfl, rfl⟩
  · have h2 : 8 ≤ i := by omega
    go_enter Tryz.func24, Tryz.ntmps24
    go_wp2
    go_ret
    exact ⟨rfl, rfl⟩
set_option maxRecDepth 20000 in
set_option maxHeartbeats 40000000 in
theorem same_any {w : World} {B B' fuel : Nat} {m : Mc} {v v' nv pv : Value} {xs : List In} (h : Mb w B m v fuel) (h' : Dm w B' m v' nv pv xs fuel) :
    Calls Tryz.prog 16 #[.pointer (some ⟨B, 0, none⟩), .pointer (some ⟨B', 0, none⟩)] w fun e w' => e = .returned (.bool true) ∧ Below w.heap.size w w' := by
  have c2 : w.cell? ⟨B', 2, none⟩ = some (.int .i64 (m.pl : Int)) := h'.b.cell (Dc.g_pl h'.b.r8 v' nv pv fuel)
  have c3 : w.cell? ⟨B', 3, none⟩ = some (.int .i64 (m.dn : Int)) := h'.b.cell (Dc.g_dn h'.b.r8 v' nv pv fuel)
  have c16 : w.cell? ⟨B', 16, none⟩ = some (.bool m.ov) := h'.b.cell (Dc.g_ov h'.b.r8 v' nv pv fuel)
  have c17 : w.cell? ⟨B', 17, none⟩ = some (.int .i64 (m.en : Int)) := h'.b.cell (Dc.g_rc h'.b.r8 v' nv pv fuel)
  have c18 : w.cell? ⟨B', 18, none⟩ = some (.int .u64 (Im.resB m : Int)) := h'.b.cell (Dc.g_rb h'.b.r8 v' nv pv fuel)
  have HCR : Hid (∀ i, i < 8 → w.cell? ⟨B', 4 + i, none⟩ = some (.int .u64 (m.R[i]! : Int))) := fun i hi => h'.b.cell (Dc.gR h'.b.r8 v' nv pv fuel i hi)
  have HM := hide h
  have hlB := h.lt
  have hlB' := h'.b.lt
  have HCo : Hid (∀ W, Below w.heap.size w W → Calls Tryz.prog 20 #[.pointer (some ⟨B, 0, none⟩)] W fun e w' => e = .returned (.bool m.ov) ∧ Below W.heap.size W w') := fun W k => (over_any (HM.out.below k hlB)).mono fun _ _ ⟨e1, e2⟩ => ⟨e1, e2 ▸ Below.refl _ _⟩
  have HCd : Hid (∀ W, Below w.heap.size w W → Calls Tryz.prog 21 #[.pointer (some ⟨B, 0, none⟩)] W fun e w' => e = .returned (.int .i64 (m.dn : Int)) ∧ Below W.heap.size W w') := fun W k => (done_any (HM.out.below k hlB)).mono fun _ _ ⟨e1, e2⟩ => ⟨e1, e2 ▸ Below.refl _ _⟩
  have HCp : Hid (∀ W, Below w.heap.size w W → Calls Tryz.prog 28 #[.pointer (some ⟨B, 0, none⟩)] W fun e w' => e = .returned (.int .i64 (m.pl : Int)) ∧ Below W.heap.size W w') := fun W k => (place_any (HM.out.below k hlB)).mono fun _ _ ⟨e1, e2⟩ => ⟨e1, e2 ▸ Below.refl _ _⟩
  have HCr : Hid (∀ W, Below w.heap.size w W → Calls Tryz.prog 25 #[.pointer (some ⟨B, 0, none⟩)] W fun e w' => e = .returned (.agg #[.int .i64 (m.en : Int), .int .u64 (Im.resB m : Int)]) ∧ Below W.heap.size W w') := fun W k => by
    have := result_any (HM.out.below k hlB)
    rw [resC_en] at this
    exact this
  have HC1 : Hid (∀ W, Below w.heap.size w W → Calls Tryz.prog 24 #[.pointer (some ⟨B, 0, none⟩), .int .i64 (-1)] W fun e w' => e = .returned (.int .u64 0) ∧ Below W.heap.size W w') := fun W k => (reg_out (-1) (by decide)).mono fun _ _ ⟨e1, e2⟩ => ⟨e1, e2 ▸ Below.refl _ _⟩
  have HC8 : Hid (∀ W, Below w.heap.size w W → Calls Tryz.prog 24 #[.pointer (some ⟨B, 0, none⟩), .int .i64 8] W fun e w' => e = .returned (.int .u64 0) ∧ Below W.heap.size W w') := fun W k => (reg_out 8 (by decide)).mono fun _ _ ⟨e1, e2⟩ => ⟨e1, e2 ▸ Below.refl _ _⟩
  have hB0 : Below w.heap.size w w.drew := bd_drew w 1
  have KEEP : ∀ {W : World}, Below w.heap.size w W → (Below w.heap.size w W ∧ W.cell? ⟨B', 2, none⟩ = some (.int .i64 (m.pl : Int)) ∧ W.cell? ⟨B', 3, none⟩ = some (.int .i64 (m.dn : Int)) ∧ W.cell? ⟨B', 16, none⟩ = some (.bool m.ov) ∧ W.cell? ⟨B', 17, none⟩ = some (.int .i64 (m.en : Int)) ∧ W.cell? ⟨B', 18, none⟩ = some (.int .u64 (Im.resB m : Int))) := fun {W} k => ⟨k, (k.cell (p := ⟨B', 2, none⟩) hlB').trans c2, (k.cell (p := ⟨B', 3, none⟩) hlB').trans c3, (k.cell (p := ⟨B', 16, none⟩) hlB').trans c16, (k.cell (p := ⟨B', 17, none⟩) hlB').trans c17, (k.cell (p := ⟨B', 18, none⟩) hlB').trans c18⟩
  have hb1 : (m.ov != m.ov) = false := by simp
  have HRG : Hid (∀ i : Nat, i < 8 → ∀ W, Below w.heap.size w W → Calls Tryz.prog 24 #[.pointer (some ⟨B, 0, none⟩), .int .i64 (i : Int)] W fun e w' => e = .returned (.int .u64 (m.R[i]! : Int)) ∧ w' = W) := fun i hi W k => reg_any (HM.out.below k hlB) i hi
  clear h h'
  go_enter Tryz.func16, Tryz.ntmps16
  go_wp2_with fail
  go_region_held3 (fun w' => Below w.heap.size w w' ∧ w'.cell? ⟨B', 2, none⟩ = some (.int .i64 (m.pl : Int)) ∧ w'.cell? ⟨B', 3, none⟩ = some (.int .i64 (m.dn : Int)) ∧ w'.cell? ⟨B', 16, none⟩ = some (.bool m.ov) ∧ w'.cell? ⟨B', 17, none⟩ = some (.int .i64 (m.en : Int)) ∧ w'.cell? ⟨B', 18, none⟩ = some (.int .u64 (Im.resB m : Int))) (first | assumption | exact KEEP hBx | exact ⟨hB0, c2, c3, c16, c17, c18⟩ | go_keep) (first
    | (go_at_call 20; refine (HCo.out _ (And.left ‹Below w.heap.size w _ ∧ _›)).mono ?_; rintro e wx ⟨rfl, hbx⟩; have hBx := bl_trans (And.left ‹Below w.heap.size w _ ∧ _›) hbx)
    | (go_at_call 25; refine (HCr.out _ (And.left ‹Below w.heap.size w _ ∧ _›)).mono ?_; rintro e wx ⟨rfl, hbx⟩; have hBx := bl_trans (And.left ‹Below w.heap.size w _ ∧ _›) hbx)
    | (go_at_call 21; refine (HCd.out _ (And.left ‹Below w.heap.size w _ ∧ _›)).mono ?_; rintro e wx ⟨rfl, hbx⟩; have hBx := bl_trans (And.left ‹Below w.heap.size w _ ∧ _›) hbx)
    | (go_at_call 28; refine (HCp.out _ (And.left ‹Below w.heap.size w _ ∧ _›)).mono ?_; rintro e wx ⟨rfl, hbx⟩; have hBx := bl_trans (And.left ‹Below w.heap.size w _ ∧ _›) hbx)
    | (go_at_call 24; (first | (refine (HC1.out _ (And.left ‹Below w.heap.size w _ ∧ _›)).mono ?_; clear HC1) | refine (HC8.out _ (And.left ‹Below w.heap.size w _ ∧ _›)).mono ?_); rintro e wx ⟨rfl, hbx⟩; have hBx := bl_trans (And.left ‹Below w.heap.size w _ ∧ _›) hbx))
  have HBX := hide hBx
  clear HC8 HCo HCd HCp HCr KEEP hB0
  go_wp2_with fail
  go_loopw [5] (fun t wr => ∃ q : Nat, t = .int .i64 (q : Int) ∧ q ≤ 8 ∧ Hid (Below w.heap.size w wr)) (fun t _ => 8 - (intOf t).toNat)
  case atStart => exact ⟨0, rfl, Nat.zero_le _, HBX.out⟩
  case round =>
    clear HBX hBx
    obtain ⟨q, rfl, hq8, HBX⟩ := hrel
    by_cases hq : q < 8
    · have hqi : (q : Int) < 8 := by omega
      have cq : wr.cell? ⟨B', 4 + q, none⟩ = some (.int .u64 (m.R[q]! : Int)) := (HBX.out.cell (p := ⟨B', 4 + q, none⟩) hlB').trans (HCR.out q hq)
      have HRq := hide (fun n' => HRG.out q hq (wr.drewN n') (bl_trans HBX.out (bd_drew wr n')))
      obtain ⟨rq, hrq⟩ : ∃ rq, m.R[q]! = rq := ⟨_, rfl⟩
      rw [hrq] at cq HRq
      have hbe : ((rq : Int) != (rq : Int)) = false := by simp
      clear hrq
      go_wp2_with fail
      go_quiet ((go_at_call 24; exact Calls.quiet_of_same (HRq.out _)))
      have HBN := hide (bl_trans HBX.out (bd_drew wr nq))
      go_wp2_with fail
      go_roundw
      case rel => exact ⟨q + 1, by go_num, by omega, HBN.out⟩
      case measure => simp [intOf]; omega
    · obtain rfl : q = 8 := by omega
      go_wp2_with fail
      go_ret
      exact ⟨rfl, HBX.out⟩
end Go.Proofs.YthjngodkpldpfaaGreatDoor
end

section
namespace Go.Proofs.YthjngodkpldpfaaGreatDoor
open Go.RowKit Go.Shelf

/-- blocks of two types are two -/
theorem ty_ne {w : World} {a b : Nat} {c1 c2 : Array Value} {t1 t2 : TypeId} (h1 : w.heap[a]? = some (.cells c1 t1 (0, 0))) (h2 : w.heap[b]? = some (.cells c2 t2 (0, 0))) (ht : t1 ≠ t2) : a ≠ b := fun e => by
  subst e
  rw [h1] at h2
  injection h2 with h2
  injection h2 with _ h2
  exact ht h2
theorem own_ne {w : World} {base e n g : Nat} {v : Value} {xs : List Value} {c : Array Value} {t : TypeId} (h : w.ownsRow base e 1 v n xs) (hb : w.heap[g]? = some (.cells c t (0, 0))) (ht : t ≠ e) : v.ownBlock ≠ some g := fun f => by
  rcases h.2 with ⟨rfl, _⟩ | ⟨g2, cap, cur, rfl, _, hh, _⟩
  · cases f
  · simp only [Value.ownBlock] at f
    injection f with f
    subst f
    exact ty_ne hb hh ht rfl
/-- the document's machine, where blocks of others were turned -/
theorem Rm.far {w w' : World} {B : Nat} {d : Dc} {ns ps : List Nat} {v nv pv : Value} {xs : List In} {fuel : Nat} (h : Rm w B d ns ps v nv pv xs fuel) {F G : Nat → Prop} (k : Mw F G w w') (h1 : ¬ F B) (h2 : ∀ g, nv.ownBlock = some g → ¬ F g) (h3 : ∀ g, pv.ownBlock = some g → ¬ F g) (h4 : ∀ g, v.ownBlock = some g → ¬ F g) : Rm w' B d ns ps v nv pv xs fuel := by
  have hlt := h.b.lt
  refine ⟨⟨(k.block B hlt h1).trans h.b.blk, h.b.r8⟩, rown_mw h.n k h2, rown_mw h.p k h3, h.a, ?_⟩
  obtain ⟨cb, off, cap, hv, hb, hc⟩ := h.c
  refine ⟨cb, off, cap, hv, hb, fun j hj i u hi => ?_⟩
  have hq := hc j hj i u hi
  unfold World.cell? at hq ⊢
  rw [k.block cb (by omega) (h4 cb (by rw [hv]; rfl))]
  exact hq
/-- the blocks that a pair's step may turn -/
def ftP (B B' : Nat) (nv pv : Value) (k : Nat) : Prop := k = B ∨ ftD B' nv pv k
/-- what a call of both leaves -/
structure PrP (w : World) (B B' : Nat) (m' : Mc) (v v' nv pv : Value) (xs : List In) (fuel : Nat) (w' : World) : Prop where
  ex : ∃ nv' pv', Mb w' B m' v fuel ∧ Dm w' B' m' v' nv' pv' xs fuel ∧ Mw (ftP B B' nv pv) (ftP B B' nv' pv') w w'
set_option maxRecDepth 20000 in
set_option maxHeartbeats 4000000 in
theorem steps_any {w : World} {B B' fuel : Nat} {m : Mc} {v v' nv pv : Value} {xs : List In} (h : Mb w B m v fuel) (hC : Cdn w v xs B) (hE : Env w B) (h' : Dm w B' m v' nv pv xs fuel) (hk : m.Ok xs.length fuel) (hg : ∀ x ∈ xs, x.Good xs.length) (hm : xs.length < 1000000) (hf : fuel < 1000000) (hx : v'.ownBlock ≠ some B) :
    Calls Tryz.prog 15 #[.pointer (some ⟨B, 0, none⟩), .pointer (some ⟨B', 0, none⟩)] w fun e w' => e = .returned (.bool true) ∧ PrP w B B' (Im.nxt xs fuel (m, [])).1 v v' nv pv xs fuel w' := by
  have hBB : B ≠ B' := ty_ne h.blk h'.b.blk (by decide)
  have hn1 := own_ne h'.n h.blk (by decide)
  have hp1 := own_ne h'.p h.blk (by decide)
  have hlB := h.lt
  have hlB' := h'.b.lt
  have HM := hide h
  have HD := hide h'
  by_cases ho : m.ov = true
  · have HS := hide (step_over h ho)
    have HRS := hide (fun W (k : Below w.heap.size w W) => rstep_over (HD.out.below k) ho)
    have e1 : (Im.nxt xs fuel (m, [])).1 = m := by unfold Im.nxt; rw [if_pos ho]
    rw [e1]
    clear h h' hC hE hk hg
    go_enter Tryz.func15, Tryz.ntmps15
    go_wp2_with fail
    refine HS.out.mono ?_
    rintro e w1 ⟨rfl, hb1⟩
    have HB1 := hide hb1
    clear hb1
    go_wp2_with fail
    refine (HRS.out _ (bl_trans HB1.out (below_one w1 _))).mono ?_
    rintro e wx ⟨rfl, hwx⟩
    rw [hwx]
    clear hwx wx
    go_wp2_with fail
    go_ret
    have hbF := bl_trans HB1.out (below_one w1 (.cells #[.int .i64 0, .string ⟨#[]⟩] 58))
    exact ⟨rfl, ⟨nv, pv, HM.out.below hbF hlB, HD.out.below hbF, mw_below hbF⟩⟩
  · rw [Bool.not_eq_true] at ho
    have HS := hide (step_live h ho hk hg hC hE hm hf)
    have e1 : (Im.nxt xs fuel (m, [])).1 = (Im.stp xs fuel m).1 := by rw [nxt_live ho]
    rw [e1]
    have HRS := hide (fun W (k : Dm W B' m v' nv pv xs fuel) => rstep_live k ho hk hg hm hf)
    clear h h' hC hE hk hg
    generalize Im.stp xs fuel m = st at *
    go_enter Tryz.func15, Tryz.ntmps15
    go_wp2_with fail
    refine HS.out.mono ?_
    rintro e w1 ⟨rfl, hm1, hg1⟩
    have hD1 : Dm w1 B' m v' nv pv xs fuel := HD.out.far (F := fun k => k = B) (G := fun k => k = B) (mw_grown hg1 (fun k e => by injection e with e; exact e.symm)) (fun e => hBB e.symm) (fun g e f => hn1 (f ▸ e)) (fun g e f => hp1 (f ▸ e)) (fun g e f => hx (f ▸ e))
    have hb1 : Below w1.heap.size w1 (w1.alloc (.cells #[.int .i64 (st.2.1 : Int), .string st.2.2] 58)) := below_one w1 _
    have HD2 := hide (hD1.below hb1)
    have HM1 := hide hm1
    have HG1 := hide hg1
    have hD1n := hD1.n
    have hD1p := hD1.p
    have hB'1 := hD1.b.lt
    have hbe := beq_self st.2.2
    clear hm1 hg1 hb1 hD1
    go_wp2_with fail
    refine (HRS.out _ HD2.out).mono ?_
    rintro e w2 ⟨nv2, pv2, rfl, hd2, hm2⟩
    have hAn : ¬ ftD B' nv pv w1.heap.size := by
      rintro (f | f | f)
      · omega
      · have := (hD1n.lt _ f).2; omega
      · have := (hD1p.lt _ f).2; omega
    have hBn : ¬ ftD B' nv pv B := by
      rintro (f | f | f)
      · exact hBB f
      · exact hn1 f
      · exact hp1 f
    have hA2 := (hm2.block w1.heap.size (by rw [World.size_alloc]; omega) hAn).trans (heap_alloc_new w1 _)
    have a0 := cell_of_block hA2 (i := 0) rfl
    have a1 := cell_of_block hA2 (i := 1) rfl
    have hAl := lt_of_block hA2
    have HD3 := hide hd2
    have HM3 : Hid (Mb w2 B st.1 v fuel) := ⟨(hm2.block B (by have := HM1.out.lt; rw [World.size_alloc]; omega) hBn).trans ((heap_alloc_old w1 _ HM1.out.lt).trans HM1.out.blk), HM1.out.l8⟩
    have HF : Hid (Mw (ftP B B' nv pv) (ftP B B' nv2 pv2) w w2) := by
      have k1 : Mw (ftP B B' nv pv) (ftP B B' nv pv) w w1 := mw_grown HG1.out (fun k e => .inl (by injection e with e; exact e.symm))
      have k2 : Mw (ftP B B' nv pv) (ftP B B' nv pv) w1 (w1.alloc (.cells #[.int .i64 (st.2.1 : Int), .string st.2.2] 58)) := mw_below (below_one w1 _)
      have k3 : Mw (ftP B B' nv pv) (ftP B B' nv2 pv2) (w1.alloc (.cells #[.int .i64 (st.2.1 : Int), .string st.2.2] 58)) w2 := ⟨hm2.os, hm2.tape, hm2.output, hm2.size, fun k hk hn => hm2.block k hk (fun f => hn (.inr f)), fun k hk => hk.elim (fun e => .inl (.inl e)) (fun f => (hm2.foot k f).imp .inr id)⟩
      exact (k1.trans k2).trans k3
    clear hd2 hm2 hA2 hAn hBn hD1n hD1p
    go_wp2_with fail
    go_ret
    exact ⟨rfl, ⟨nv2, pv2, HM3.out, HD3.out, HF.out⟩⟩
end Go.Proofs.YthjngodkpldpfaaGreatDoor
end

section
namespace Go.Proofs.YthjngodkpldpfaaGreatDoor
open Go.RowKit Go.Shelf

/-- acts in a row, from the k-th on -/
structure Arow (w : World) (u : Value) (L : List (Nat × ByteArray)) (k : Nat) : Prop where
  form : ∃ ad cap, u = .slice ad L.length cap ∧ (0 < L.length → ∃ g, ad = some ⟨g, 0, none⟩ ∧ (∃ cur, w.heap[g]? = some (.cells cur 58 (0, 0)) ∧ L.length * 2 ≤ cur.size) ∧ ∀ j, k ≤ j → j < L.length → w.cell? ⟨g, j * 2, none⟩ = some (.int .i64 ((L[j]!).1 : Int)) ∧ w.cell? ⟨g, j * 2 + 1, none⟩ = some (.string (L[j]!).2))
theorem arow_of {w : World} {base : Nat} {u : Value} {L : List (Nat × ByteArray)} (h : w.ownsRow base 58 2 u L.length (Im.acs L)) : Arow w u L 0 := by
  rcases h.2 with ⟨h1, h2⟩ | ⟨g, cap, cur, rfl, hb, hh, a1, a2, a3, a4⟩
  · exact ⟨none, 0, by rw [h2]; exact h1, fun h0 => by omega⟩
  · refine ⟨some ⟨g, 0, none⟩, cap, rfl, fun _ => ⟨g, rfl, ⟨cur, hh, by omega⟩, fun j _ hj => ?_⟩⟩
    have q := acs_at L j hj
    have k0 := h.cells rfl _ _ q.1
    have k1 := h.cells rfl _ _ q.2
    rw [addr_add, Nat.zero_add] at k0 k1
    exact ⟨k0, k1⟩
theorem Arow.keep {w w' : World} {u : Value} {L : List (Nat × ByteArray)} {k : Nat} (h : Arow w u L k) (hk : ∀ g, u.ownBlock = some g → w'.heap[g]? = w.heap[g]?) : Arow w' u L k := by
  obtain ⟨ad, cap, rfl, h1⟩ := h
  refine ⟨ad, cap, rfl, fun h0 => ?_⟩
  obtain ⟨g, rfl, ⟨cur, hh, hs⟩, hc⟩ := h1 h0
  have e := hk g rfl
  refine ⟨g, rfl, ⟨cur, e.trans hh, hs⟩, fun j h1 h2 => ?_⟩
  have q := hc j h1 h2
  unfold World.cell? at q ⊢
  rw [e]
  exact q
theorem Arow.more {w : World} {u : Value} {L : List (Nat × ByteArray)} {k k' : Nat} (h : Arow w u L k) (hk : k ≤ k') : Arow w u L k' := by
  obtain ⟨ad, cap, hu, h1⟩ := h
  refine ⟨ad, cap, hu, fun h0 => ?_⟩
  obtain ⟨g, e, hb, hc⟩ := h1 h0
  exact ⟨g, e, hb, fun j q1 q2 => hc j (by omega) q2⟩
/-- a text spoilt -/
theorem Arow.put {w : World} {g cap : Nat} {L : List (Nat × ByteArray)} {k : Nat} (h : Arow w (.slice (some ⟨g, 0, none⟩) L.length cap) L k) (t : Value) : Arow (w.setCell ⟨g, k * 2 + 1, none⟩ t) (.slice (some ⟨g, 0, none⟩) L.length cap) L (k + 1) := by
  obtain ⟨ad, cap', hu, h1⟩ := h
  injection hu with e1 e2 e3
  subst e1 e3
  refine ⟨_, _, rfl, fun h0 => ?_⟩
  obtain ⟨g', e, ⟨cur, hh, hs⟩, hc⟩ := h1 h0
  injection e with e
  injection e with e
  subst e
  have hb := block_set hh (k * 2 + 1) t
  refine ⟨g, rfl, ⟨_, hb, by rw [Array.size_setIfInBounds]; exact hs⟩, fun j q1 q2 => ?_⟩
  have q := hc j (by omega) q2
  constructor
  · rw [← q.1]
    simp only [World.cell?, hb, hh]
    rw [Array.getElem?_setIfInBounds_ne (by omega)]
  · rw [← q.2]
    simp only [World.cell?, hb, hh]
    rw [Array.getElem?_setIfInBounds_ne (by omega)]
set_option maxRecDepth 20000 in
set_option maxHeartbeats 4000000 in
theorem runs_any {w : World} {B B' fuel : Nat} {m : Mc} {v v' nv pv : Value} {xs : List In} (h : Mb w B m v fuel) (hC : Cdn w v xs B) (hE : Env w B) (h' : Dm w B' m v' nv pv xs fuel) (hk : m.Ok xs.length fuel) (hg : ∀ x ∈ xs, x.Good xs.length) (hm : xs.length < 1000000) (hf : fuel < 1000000) (hx : v'.ownBlock ≠ some B) (most : Int) (hmo : most ≤ 9223372036854775807) :
    Calls Tryz.prog 12 #[.pointer (some ⟨B, 0, none⟩), .pointer (some ⟨B', 0, none⟩), .int .i64 most] w fun e w' => e = .returned (.bool true) ∧ PrP w B B' (Im.itr xs fuel m most.toNat).1 v v' nv pv xs fuel w' := by
  have hBB : B ≠ B' := ty_ne h.blk h'.b.blk (by decide)
  have hn1 := own_ne h'.n h.blk (by decide)
  have hp1 := own_ne h'.p h.blk (by decide)
  have hlB := h.lt
  have hlB' := h'.b.lt
  have HRun := hide (run_any h hk hg hC hE hm hf most hmo)
  have HD := hide h'
  have HK := hide hk
  have HG := hide hg
  clear h h' hC hE hk hg
  obtain ⟨N, hN⟩ : ∃ N, most.toNat = N := ⟨_, rfl⟩
  rw [hN] at HRun ⊢
  obtain ⟨E, hE⟩ : ∃ E, Im.itr xs fuel m N = E := ⟨_, rfl⟩
  rw [hE] at HRun ⊢
  have HE := hide hE
  clear hE
  go_enter Tryz.func12, Tryz.ntmps12
  go_wp2_with fail
  refine HRun.out.mono ?_
  rintro e w1 ⟨u, rfl, hm1, ho1, hg1⟩
  have hD1 : Dm w1 B' m v' nv pv xs fuel := HD.out.far (F := fun k => k = B) (G := fun k => k = B) (mw_grown hg1 (fun k e => by injection e with e; exact e.symm)) (fun e => hBB e.symm) (fun g e f => hn1 (f ▸ e)) (fun g e f => hp1 (f ▸ e)) (fun g e f => hx (f ▸ e))
  have hnu : ∀ g, u.ownBlock = some g → ¬ ftP B B' nv pv g := fun g e f => by
    have q := (ho1.lt g e).1
    rcases f with f | f | f | f
    · omega
    · omega
    · have := (HD.out.n.lt g f).2; omega
    · have := (HD.out.p.lt g f).2; omega
  have HA1 := hide (arow_of ho1)
  have HM1 := hide hm1
  have HD1 := hide hD1
  have HNU := hide hnu
  have HF1 : Hid (Mw (ftP B B' nv pv) (ftP B B' nv pv) w w1) := mw_grown hg1 (fun k e => .inl (by injection e with e; exact e.symm))
  obtain ⟨adu, capu, rfl⟩ := rown_slice ho1
  have hul := ho1.lt
  clear hm1 ho1 hg1 hD1 hnu
  go_wp2_with fail
  go_loopw [8, 9] (fun tk ti wr => ∃ (i : Nat) (nv2 pv2 : Value), tk = .int .i64 ((Im.itr xs fuel m i).2.length : Int) ∧ ti = .int .i64 (i : Int) ∧ i ≤ N ∧ Hid (Dm wr B' (Im.itr xs fuel m i).1 v' nv2 pv2 xs fuel) ∧ Hid (Mb wr B E.1 v fuel) ∧ Hid (Arow wr (.slice adu E.2.length capu) E.2 (Im.itr xs fuel m i).2.length) ∧ Hid (∀ g, Value.ownBlock (.slice adu E.2.length capu) = some g → ¬ ftP B B' nv2 pv2 g ∧ w.heap.size ≤ g ∧ g < wr.heap.size) ∧ Hid (Mw (ftP B B' nv pv) (ftP B B' nv2 pv2) w wr)) (fun _ ti _ => N - (intOf ti).toNat)
  case atStart => exact ⟨0, nv, pv, rfl, rfl, Nat.zero_le _, HD1.out, HM1.out, HA1.out, fun g e => ⟨HNU.out g e, hul g e⟩, HF1.out⟩
  case round =>
    clear HD1 HM1 HA1 HNU HF1
    obtain ⟨i, nv2, pv2, rfl, rfl, hiN, HDi, HMi, HAi, HNi, HFi⟩ := hrel
    have hok := itr_ok HK.out HG.out i
    have hnx : Im.itr xs fuel m (i + 1) = Im.nxt xs fuel (Im.itr xs fuel m i) := rfl
    have hpre : ∀ j, ∃ t, (Im.itr xs fuel m (i + 1 + j)).2 = (Im.itr xs fuel m (i + 1)).2 ++ t := fun j => itr_pre xs fuel m (i + 1) j
    have hov : (Im.itr xs fuel m i).1.ov = true → E = Im.itr xs fuel m i := fun q => by
      obtain ⟨j, hj⟩ : ∃ j, N = i + j := ⟨N - i, by omega⟩
      rw [← HE.out, hj, itr_over q j]
    have hend : i = N → E = Im.itr xs fuel m i := fun q => by rw [← HE.out, q]
    have hlen := itr_len xs fuel m i
    obtain ⟨I, hI⟩ : ∃ I, Im.itr xs fuel m i = I := ⟨_, rfl⟩
    rw [hI] at HDi HAi hok hnx hov hend hlen
    rw [hI]
    have c16 : wr.cell? ⟨B', 16, none⟩ = some (.bool I.1.ov) := HDi.out.b.cell (Dc.g_ov HDi.out.b.r8 _ _ _ fuel)
    have hlti := HDi.out.b.lt
    by_cases hrun : (i : Int) < most ∧ I.1.ov = false
    · obtain ⟨hlt, ho⟩ := hrun
      rw [ho] at c16
      rw [nxt_live ho] at hnx
      have hlv := (hok.live ho).2.1
      have hdn := itr_dn HK.out HG.out i (by rw [hI]; exact ho)
      rw [hI] at hdn
      have HS := hide (rstep_live HDi.out ho hok HG.out hm hf)
      obtain ⟨kd, hkde⟩ : ∃ kd, (Im.stp xs fuel I.1).2.1 = kd := ⟨_, rfl⟩
      obtain ⟨tx, htxe⟩ : ∃ tx, (Im.stp xs fuel I.1).2.2 = tx := ⟨_, rfl⟩
      have hpr : (Im.stp xs fuel I.1).2 = (kd, tx) := by rw [← hkde, ← htxe]
      rw [hpr] at hnx
      simp only at hnx
      have hNi : i < N := by omega
      obtain ⟨t, ht⟩ := hpre (N - (i + 1))
      rw [show i + 1 + (N - (i + 1)) = N by omega, HE.out] at ht
      have HTT := hide ht
      clear ht
      clear hok hov hend hpre hI
      go_wp2_with fail
      refine HS.out.mono ?_
      rintro e w6 ⟨nv6, pv6, rfl, hd6, hm6⟩
      rw [hkde, htxe]
      have hBn : ¬ ftD B' nv2 pv2 B := by
        rintro (f | f | f)
        · exact hBB f
        · exact own_ne HDi.out.n HMi.out.blk (by decide) f
        · exact own_ne HDi.out.p HMi.out.blk (by decide) f
      have HD6 := hide hd6
      have HM6 : Hid (Mb w6 B E.1 v fuel) := ⟨(hm6.block B HMi.out.lt hBn).trans HMi.out.blk, HMi.out.l8⟩
      have HA6 := hide (HAi.out.keep (fun g e => hm6.block g (HNi.out g e).2.2 (fun f => (HNi.out g e).1 (.inr f))))
      have HN6 : Hid (∀ g, Value.ownBlock (.slice adu E.2.length capu) = some g → ¬ ftP B B' nv6 pv6 g ∧ w.heap.size ≤ g ∧ g < w6.heap.size) := fun g e => ⟨fun f => f.elim (fun q => (HNi.out g e).1 (.inl q)) (fun q => (hm6.foot g q).elim (fun q2 => (HNi.out g e).1 (.inr q2)) (fun q2 => by have := (HNi.out g e).2.2; omega)), (HNi.out g e).2.1, Nat.lt_of_lt_of_le (HNi.out g e).2.2 hm6.size⟩
      have HF6 : Hid (Mw (ftP B B' nv pv) (ftP B B' nv6 pv6) w w6) := HFi.out.trans ⟨hm6.os, hm6.tape, hm6.output, hm6.size, fun k hk hn => hm6.block k hk (fun f => hn (.inr f)), fun k hk => hk.elim (fun e => .inl (.inl e)) (fun f => (hm6.foot k f).imp .inr id)⟩
      have HNX := hide hnx
      clear hm6 hd6 hnx hBn
      by_cases h0k : kd = 0
      · have hk0 : ((kd : Int) == 0) = true := by rw [h0k]; rfl
        have HN2 : Hid (Im.itr xs fuel m (i + 1) = ((Im.stp xs fuel I.1).1, I.2)) := by have := HNX.out; rw [if_pos h0k] at this; exact this
        go_wp2_with fail
        go_roundw
        case rel =>
          have HRel : ∃ (i' : Nat) (nv2 pv2 : Value), Value.int .i64 (I.2.length : Int) = .int .i64 ((Im.itr xs fuel m i').2.length : Int) ∧ Value.int .i64 ((i : Int) + 1) = .int .i64 (i' : Int) ∧ i' ≤ N ∧ Hid (Dm w6 B' (Im.itr xs fuel m i').1 v' nv2 pv2 xs fuel) ∧ Hid (Mb w6 B E.1 v fuel) ∧ Hid (Arow w6 (.slice adu E.2.length capu) E.2 (Im.itr xs fuel m i').2.length) ∧ Hid (∀ g, Value.ownBlock (.slice adu E.2.length capu) = some g → ¬ ftP B B' nv2 pv2 g ∧ w.heap.size ≤ g ∧ g < w6.heap.size) ∧ Hid (Mw (ftP B B' nv pv) (ftP B B' nv2 pv2) w w6) := ⟨i + 1, nv6, pv6, by rw [HN2.out], by go_num, by omega, by rw [HN2.out]; exact HD6.out, HM6.out, by rw [HN2.out]; exact HA6.out, HN6.out, HF6.out⟩
          exact HRel
        case measure => simp [intOf]; omega
      · have hk0 : ((kd : Int) == 0) = false := by rw [beq_eq_false_iff_ne]; omega
        have HN2 : Hid (Im.itr xs fuel m (i + 1) = ((Im.stp xs fuel I.1).1, I.2 ++ [(kd, tx)])) := by have := HNX.out; rw [if_neg h0k] at this; exact this
        have ht := HTT.out
        rw [HN2.out] at ht
        simp only at ht
        have hIl : I.2.length < E.2.length := by rw [ht, List.length_append, List.length_append]; simp; omega
        have hEk : E.2[I.2.length]! = (kd, tx) := by
          rw [getElem!_pos E.2 _ hIl]
          simp only [ht, List.append_assoc]
          rw [List.getElem_append_right (Nat.le_refl _)]
          simp
        obtain ⟨ad, cp, hu, h1⟩ := HA6.out
        obtain ⟨gl, e', ⟨cur, hh, hcs⟩, hcl⟩ := h1 (by omega)
        injection hu with e1 e2 e3
        rw [e'] at e1
        subst e1 e3
        have hq := hcl I.2.length (Nat.le_refl _) hIl
        rw [hEk] at hq
        have l0 := hq.1
        have l1 := hq.2
        simp only at l0 l1
        have lz : w6.frozen? ⟨gl, I.2.length * 2 + 1, none⟩ = false := by simp [World.frozen?, hh]
        have hll := lt_of_block hh
        have hIi : (I.2.length : Int) < (E.2.length : Int) := by omega
        have hIn : ¬ E.2.length ≤ I.2.length := by omega
        have hbk : ((kd : Int) != (kd : Int)) = false := by simp
        have hbt := beq_self tx
        have hIw : (I.2.length : Int) + 1 ≤ 9223372036854775807 := by omega
        have hgn := HN6.out gl rfl
        clear h1 hcl hq hEk ht
        have gS := grown_set w6 gl (I.2.length * 2 + 1) (.string ⟨#[115, 112, 111, 105, 108, 116]⟩)
        have kS : Mw (fun k => k = gl) (fun k => k = gl) w6 (w6.setCell ⟨gl, I.2.length * 2 + 1, none⟩ (.string ⟨#[115, 112, 111, 105, 108, 116]⟩)) := mw_grown gS (fun k e => by injection e with e; exact e.symm)
        have HD7 := hide (HD6.out.far kS (fun e => hgn.1 (.inr (.inl e.symm))) (fun g e f => hgn.1 (.inr (.inr (.inl (f ▸ e))))) (fun g e f => hgn.1 (.inr (.inr (.inr (f ▸ e))))) (fun g e f => by
          obtain ⟨cb, off, cp2, hv2, hcb, _⟩ := HD6.out.c
          rw [hv2] at e
          simp only [Value.ownBlock] at e
          injection e with e
          omega))
        have HM7 : Hid (Mb (w6.setCell ⟨gl, I.2.length * 2 + 1, none⟩ (.string ⟨#[115, 112, 111, 105, 108, 116]⟩)) B E.1 v fuel) := HM6.out.grown gS (fun e => by injection e with e; exact hgn.1 (.inl e.symm))
        have HA7 := hide (HA6.out.put (.string ⟨#[115, 112, 111, 105, 108, 116]⟩))
        have HF7 : Hid (Mw (ftP B B' nv pv) (ftP B B' nv6 pv6) w (w6.setCell ⟨gl, I.2.length * 2 + 1, none⟩ (.string ⟨#[115, 112, 111, 105, 108, 116]⟩))) := ⟨gS.os.trans HF6.out.os, gS.tape.trans HF6.out.tape, gS.output.trans HF6.out.output, Nat.le_trans HF6.out.size gS.size, fun k hk hn => (gS.block k (Nat.lt_of_lt_of_le hk HF6.out.size) (by simp; omega)).trans (HF6.out.block k hk hn), HF6.out.foot⟩
        have HN7 : Hid (∀ g, Value.ownBlock (.slice (some ⟨gl, 0, none⟩) E.2.length capu) = some g → ¬ ftP B B' nv6 pv6 g ∧ w.heap.size ≤ g ∧ g < (w6.setCell ⟨gl, I.2.length * 2 + 1, none⟩ (.string ⟨#[115, 112, 111, 105, 108, 116]⟩)).heap.size) := fun g e => ⟨(HN6.out g e).1, (HN6.out g e).2.1, by simpa using (HN6.out g e).2.2⟩
        clear gS kS
        go_wp2_with fail
        go_roundw
        case rel => exact ⟨i + 1, nv6, pv6, by rw [HN2.out, List.length_append]; go_num, by go_num, by omega, by rw [HN2.out]; exact HD7.out, HM7.out, by rw [HN2.out]; show Arow _ _ _ (I.2 ++ [(kd, tx)]).length; rw [List.length_append]; exact HA7.out, HN7.out, HF7.out⟩
        case measure => simp [intOf]; omega
    · have hEI : E = I := by
        by_cases hlt : (i : Int) < most
        · refine hov ?_
          cases hq : I.1.ov
          · exact absurd ⟨hlt, hq⟩ hrun
          · rfl
        · exact hend (by omega)
      have HEI := hide hEI
      have hbl : ((I.2.length : Int) == (E.2.length : Int)) = true := by rw [hEI]; simp
      clear hov hend hpre hnx hok hEI
      by_cases hlt : (i : Int) < most
      · have ho : I.1.ov = true := by
          cases hq : I.1.ov
          · exact absurd ⟨hlt, hq⟩ hrun
          · rfl
        rw [ho] at c16
        go_wp2_with fail
        go_ret
        exact ⟨rfl, ⟨nv2, pv2, HMi.out, by rw [HEI.out]; exact HDi.out, HFi.out⟩⟩
      · go_wp2_with fail
        go_ret
        exact ⟨rfl, ⟨nv2, pv2, HMi.out, by rw [HEI.out]; exact HDi.out, HFi.out⟩⟩
end Go.Proofs.YthjngodkpldpfaaGreatDoor
end
