import Derived.Test.YthjngodkpldpfaaGreatDoorMgBH

section
namespace Go.Proofs.YthjngodkpldpfaaGreatDoor
open Go.RowKit Go.Shelf

set_option maxRecDepth 20000 in
set_option maxHeartbeats 1000000 in
theorem flows_ifz {w : World} {B fuel : Nat} {d : Dc} {ns ps : List Nat} {v nv pv : Value} {xs : List In} {x : In} (h : Rm w B d ns ps v nv pv xs fuel) (hpl : d.pl < 1000000) (g : x.Good xs.length) (hop : x.op = 15) (hw : d.R[x.a.toNat]! < 18446744073709551616) (hc : clsN d.R[x.a.toNat]! = 2) :
    Calls Tryz.prog 43 #[.pointer (some ⟨B, 0, none⟩), .agg x.cs.toArray] w (FlP w B (Im.flw d ns ps x xs.length) v nv pv xs fuel) := by
  have c2 := h.b.cell (Dc.g_pl h.b.r8 v nv pv fuel)
  have hz := h.b.z
  have hlt := h.b.lt
  have HR := hide h
  obtain ⟨op, a, b, c, n, k⟩ := x
  simp only at hop
  subst hop
  have hn0 := g.n0
  have ha0 := g.a0
  have ha1 := g.a1
  simp only at hn0 ha0 ha1
  obtain ⟨n, rfl⟩ : ∃ q : Nat, n = (q : Int) := ⟨n.toNat, by omega⟩
  obtain ⟨a, rfl⟩ : ∃ q : Nat, a = (q : Int) := ⟨a.toNat, by omega⟩
  have ha : a < 8 := by omega
  obtain ⟨r, hr⟩ : ∃ r, d.R[a]! = r := ⟨_, rfl⟩
  simp only [Int.toNat_natCast] at hw hc
  rw [hr] at hw hc
  have hai : (a : Int) < 8 := by omega
  have hci : ((clsN r : Int) != 2) = false := by rw [hc]; rfl
  have e1 : Im.flw d ns ps ⟨15, (a : Int), b, c, (n : Int), k⟩ xs.length = (0, { d with pl := d.pl + 1 }, ns, ps) := by show (0, { d with pl := if clsN d.R[a]! = 2 then d.pl + 1 else n }, ns, ps) = _; rw [hr, if_pos hc]
  rw [e1]
  simp only [In.cs]
  clear g h
  go_enter Tryz.func43, Tryz.ntmps43
  go_wp2_with fail
  have hR0 : Rm ((w.setCell ⟨B, 2, none⟩ (.int .i64 ((d.pl : Int) + 1))).alloc (.cells #[.int .i64 15, .int .i64 (a : Int), .int .i64 b, .int .i64 c, .int .i64 (n : Int), .int .u64 (k : Int)] 66)) B { d with pl := d.pl + 1 } ns ps v nv pv xs fuel := (HR.out.set (Dc.s_pl HR.out.b.r8 v nv pv fuel (d.pl + 1)) HR.out.b.r8).below (below_one _ _)
  have hM0 : Mw (ftD B nv pv) (ftD B nv pv) w ((w.setCell ⟨B, 2, none⟩ (.int .i64 ((d.pl : Int) + 1))).alloc (.cells #[.int .i64 15, .int .i64 (a : Int), .int .i64 b, .int .i64 c, .int .i64 (n : Int), .int .u64 (k : Int)] 66)) := (mw_set w 2 _).trans (mw_below (below_one _ _))
  have x1 : ((w.setCell ⟨B, 2, none⟩ (.int .i64 ((d.pl : Int) + 1))).alloc (.cells #[.int .i64 15, .int .i64 (a : Int), .int .i64 b, .int .i64 c, .int .i64 (n : Int), .int .u64 (k : Int)] 66)).cell? ⟨w.heap.size, 1, none⟩ = some (.int .i64 (a : Int)) := cell_of_block (blk_new w B 2 _ _) rfl
  have x4 : ((w.setCell ⟨B, 2, none⟩ (.int .i64 ((d.pl : Int) + 1))).alloc (.cells #[.int .i64 15, .int .i64 (a : Int), .int .i64 b, .int .i64 c, .int .i64 (n : Int), .int .u64 (k : Int)] 66)).cell? ⟨w.heap.size, 4, none⟩ = some (.int .i64 (n : Int)) := cell_of_block (blk_new w B 2 _ _) rfl
  have hsz0 : w.heap.size < ((w.setCell ⟨B, 2, none⟩ (.int .i64 ((d.pl : Int) + 1))).alloc (.cells #[.int .i64 15, .int .i64 (a : Int), .int .i64 b, .int .i64 c, .int .i64 (n : Int), .int .u64 (k : Int)] 66)).heap.size := by simp
  generalize ((w.setCell ⟨B, 2, none⟩ (.int .i64 ((d.pl : Int) + 1))).alloc (.cells #[.int .i64 15, .int .i64 (a : Int), .int .i64 b, .int .i64 c, .int .i64 (n : Int), .int .u64 (k : Int)] 66)) = W0 at *
  have cR : W0.cell? ⟨B, 4 + a, none⟩ = some (.int .u64 (r : Int)) := by rw [← hr]; exact hR0.b.cell (Dc.gR hR0.b.r8 v nv pv fuel a ha)
  have z2 := hR0.b.z 2
  have c1 := hR0.b.cell (Dc.g_v hR0.b.r8 v nv pv fuel)
  have c2' : W0.cell? ⟨B, 2, none⟩ = some (.int .i64 ((d.pl : Int) + 1)) := hR0.b.cell (Dc.g_pl hR0.b.r8 v nv pv fuel)
  have hlt0 := hR0.b.lt
  have HR0 := hide hR0
  have HM0 := hide hM0
  clear hR0 hM0 c2 hz
  have HCl := hide (fun w' => rclass_any r hw w')
  go_quiet ((go_at_call 66; exact Calls.quiet_of_same (HCl.out _)))
  go_wp2_with fail
  go_ret
  exact ⟨nv, pv, rfl, HR0.out.below (bd_drew W0 nq), HM0.out.trans (mw_below (bd_drew W0 nq))⟩
set_option maxRecDepth 20000 in
set_option maxHeartbeats 1000000 in
theorem flows_ifn {w : World} {B fuel : Nat} {d : Dc} {ns ps : List Nat} {v nv pv : Value} {xs : List In} {x : In} (h : Rm w B d ns ps v nv pv xs fuel) (hpl : d.pl < 1000000) (g : x.Good xs.length) (hop : x.op = 15) (hw : d.R[x.a.toNat]! < 18446744073709551616) (hc : ¬ clsN d.R[x.a.toNat]! = 2) :
    Calls Tryz.prog 43 #[.pointer (some ⟨B, 0, none⟩), .agg x.cs.toArray] w (FlP w B (Im.flw d ns ps x xs.length) v nv pv xs fuel) := by
  have c2 := h.b.cell (Dc.g_pl h.b.r8 v nv pv fuel)
  have hz := h.b.z
  have hlt := h.b.lt
  have HR := hide h
  obtain ⟨op, a, b, c, n, k⟩ := x
  simp only at hop
  subst hop
  have hn0 := g.n0
  have ha0 := g.a0
  have ha1 := g.a1
  simp only at hn0 ha0 ha1
  obtain ⟨n, rfl⟩ : ∃ q : Nat, n = (q : Int) := ⟨n.toNat, by omega⟩
  obtain ⟨a, rfl⟩ : ∃ q : Nat, a = (q : Int) := ⟨a.toNat, by omega⟩
  have ha : a < 8 := by omega
  obtain ⟨r, hr⟩ : ∃ r, d.R[a]! = r := ⟨_, rfl⟩
  simp only [Int.toNat_natCast] at hw hc
  rw [hr] at hw hc
  have hai : (a : Int) < 8 := by omega
  have hci : ((clsN r : Int) != 2) = true := by rw [bne_iff_ne]; omega
  have e1 : Im.flw d ns ps ⟨15, (a : Int), b, c, (n : Int), k⟩ xs.length = (0, { d with pl := n }, ns, ps) := by show (0, { d with pl := if clsN d.R[a]! = 2 then d.pl + 1 else n }, ns, ps) = _; rw [hr, if_neg hc]
  rw [e1]
  simp only [In.cs]
  clear g h
  go_enter Tryz.func43, Tryz.ntmps43
  go_wp2_with fail
  have hR0 : Rm ((w.setCell ⟨B, 2, none⟩ (.int .i64 ((d.pl : Int) + 1))).alloc (.cells #[.int .i64 15, .int .i64 (a : Int), .int .i64 b, .int .i64 c, .int .i64 (n : Int), .int .u64 (k : Int)] 66)) B { d with pl := d.pl + 1 } ns ps v nv pv xs fuel := (HR.out.set (Dc.s_pl HR.out.b.r8 v nv pv fuel (d.pl + 1)) HR.out.b.r8).below (below_one _ _)
  have hM0 : Mw (ftD B nv pv) (ftD B nv pv) w ((w.setCell ⟨B, 2, none⟩ (.int .i64 ((d.pl : Int) + 1))).alloc (.cells #[.int .i64 15, .int .i64 (a : Int), .int .i64 b, .int .i64 c, .int .i64 (n : Int), .int .u64 (k : Int)] 66)) := (mw_set w 2 _).trans (mw_below (below_one _ _))
  have x1 : ((w.setCell ⟨B, 2, none⟩ (.int .i64 ((d.pl : Int) + 1))).alloc (.cells #[.int .i64 15, .int .i64 (a : Int), .int .i64 b, .int .i64 c, .int .i64 (n : Int), .int .u64 (k : Int)] 66)).cell? ⟨w.heap.size, 1, none⟩ = some (.int .i64 (a : Int)) := cell_of_block (blk_new w B 2 _ _) rfl
  have x4 : ((w.setCell ⟨B, 2, none⟩ (.int .i64 ((d.pl : Int) + 1))).alloc (.cells #[.int .i64 15, .int .i64 (a : Int), .int .i64 b, .int .i64 c, .int .i64 (n : Int), .int .u64 (k : Int)] 66)).cell? ⟨w.heap.size, 4, none⟩ = some (.int .i64 (n : Int)) := cell_of_block (blk_new w B 2 _ _) rfl
  have hsz0 : w.heap.size < ((w.setCell ⟨B, 2, none⟩ (.int .i64 ((d.pl : Int) + 1))).alloc (.cells #[.int .i64 15, .int .i64 (a : Int), .int .i64 b, .int .i64 c, .int .i64 (n : Int), .int .u64 (k : Int)] 66)).heap.size := by simp
  generalize ((w.setCell ⟨B, 2, none⟩ (.int .i64 ((d.pl : Int) + 1))).alloc (.cells #[.int .i64 15, .int .i64 (a : Int), .int .i64 b, .int .i64 c, .int .i64 (n : Int), .int .u64 (k : Int)] 66)) = W0 at *
  have cR : W0.cell? ⟨B, 4 + a, none⟩ = some (.int .u64 (r : Int)) := by rw [← hr]; exact hR0.b.cell (Dc.gR hR0.b.r8 v nv pv fuel a ha)
  have z2 := hR0.b.z 2
  have c1 := hR0.b.cell (Dc.g_v hR0.b.r8 v nv pv fuel)
  have c2' : W0.cell? ⟨B, 2, none⟩ = some (.int .i64 ((d.pl : Int) + 1)) := hR0.b.cell (Dc.g_pl hR0.b.r8 v nv pv fuel)
  have hlt0 := hR0.b.lt
  have HR0 := hide hR0
  have HM0 := hide hM0
  clear hR0 hM0 c2 hz
  have HCl := hide (fun w' => rclass_any r hw w')
  go_quiet ((go_at_call 66; exact Calls.quiet_of_same (HCl.out _)))
  go_wp2_with fail
  go_ret
  exact ⟨nv, pv, rfl, (HR0.out.below (bd_drew W0 nq)).set (Dc.s_pl (m := { d with pl := d.pl + 1 }) HR0.out.b.r8 v nv pv fuel n) HR0.out.b.r8, (HM0.out.trans (mw_below (bd_drew W0 nq))).trans (mw_set _ 2 _)⟩
set_option maxRecDepth 20000 in
set_option maxHeartbeats 1000000 in
theorem flows_gotoy {w : World} {B fuel : Nat} {d : Dc} {ns ps : List Nat} {v nv pv : Value} {xs : List In} {x : In} (h : Rm w B d ns ps v nv pv xs fuel) (hpl : d.pl < 1000000) (g : x.Good xs.length) (hop : x.op = 16) (hw : d.R[x.a.toNat]! < 18446744073709551616)  (hc : Gn.intOk d.R[x.a.toNat]! = true ∧ 0 ≤ Gn.intV d.R[x.a.toNat]! ∧ Gn.intV d.R[x.a.toNat]! ≤ (xs.length : Int)) :
    Calls Tryz.prog 43 #[.pointer (some ⟨B, 0, none⟩), .agg x.cs.toArray] w (FlP w B (Im.flw d ns ps x xs.length) v nv pv xs fuel) := by
  have c2 := h.b.cell (Dc.g_pl h.b.r8 v nv pv fuel)
  have hz := h.b.z
  have hlt := h.b.lt
  have HR := hide h
  obtain ⟨op, a, b, c, n, k⟩ := x
  simp only at hop
  subst hop
  have hn0 := g.n0
  have ha0 := g.a0
  have ha1 := g.a1
  simp only at hn0 ha0 ha1
  obtain ⟨n, rfl⟩ : ∃ q : Nat, n = (q : Int) := ⟨n.toNat, by omega⟩
  obtain ⟨a, rfl⟩ : ∃ q : Nat, a = (q : Int) := ⟨a.toNat, by omega⟩
  have ha : a < 8 := by omega
  obtain ⟨r, hr⟩ : ∃ r, d.R[a]! = r := ⟨_, rfl⟩
  simp only [Int.toNat_natCast] at hw hc
  rw [hr] at hw hc
  have hai : (a : Int) < 8 := by omega
  have hi0 := hc.2.1
  have hi1 := hc.2.2
  have hi2 : ¬ Gn.intV r < 0 := by omega
  have hi3 : ¬ (xs.length : Int) < Gn.intV r := by omega
  have e1 : Im.flw d ns ps ⟨16, (a : Int), b, c, (n : Int), k⟩ xs.length = (0, { d with pl := (Gn.intV r).toNat }, ns, ps) := by show (if Gn.intOk d.R[a]! = true ∧ 0 ≤ Gn.intV d.R[a]! ∧ Gn.intV d.R[a]! ≤ (xs.length : Int) then (0, { d with pl := (Gn.intV d.R[a]!).toNat }, ns, ps) else (4, { d with pl := d.pl + 1 }, ns, ps)) = _; rw [hr]; exact if_pos hc
  rw [e1]
  simp only [In.cs]
  clear g h
  go_enter Tryz.func43, Tryz.ntmps43
  go_wp2_with fail
  have hR0 : Rm ((w.setCell ⟨B, 2, none⟩ (.int .i64 ((d.pl : Int) + 1))).alloc (.cells #[.int .i64 16, .int .i64 (a : Int), .int .i64 b, .int .i64 c, .int .i64 (n : Int), .int .u64 (k : Int)] 66)) B { d with pl := d.pl + 1 } ns ps v nv pv xs fuel := (HR.out.set (Dc.s_pl HR.out.b.r8 v nv pv fuel (d.pl + 1)) HR.out.b.r8).below (below_one _ _)
  have hM0 : Mw (ftD B nv pv) (ftD B nv pv) w ((w.setCell ⟨B, 2, none⟩ (.int .i64 ((d.pl : Int) + 1))).alloc (.cells #[.int .i64 16, .int .i64 (a : Int), .int .i64 b, .int .i64 c, .int .i64 (n : Int), .int .u64 (k : Int)] 66)) := (mw_set w 2 _).trans (mw_below (below_one _ _))
  have x1 : ((w.setCell ⟨B, 2, none⟩ (.int .i64 ((d.pl : Int) + 1))).alloc (.cells #[.int .i64 16, .int .i64 (a : Int), .int .i64 b, .int .i64 c, .int .i64 (n : Int), .int .u64 (k : Int)] 66)).cell? ⟨w.heap.size, 1, none⟩ = some (.int .i64 (a : Int)) := cell_of_block (blk_new w B 2 _ _) rfl
  have x4 : ((w.setCell ⟨B, 2, none⟩ (.int .i64 ((d.pl : Int) + 1))).alloc (.cells #[.int .i64 16, .int .i64 (a : Int), .int .i64 b, .int .i64 c, .int .i64 (n : Int), .int .u64 (k : Int)] 66)).cell? ⟨w.heap.size, 4, none⟩ = some (.int .i64 (n : Int)) := cell_of_block (blk_new w B 2 _ _) rfl
  have hsz0 : w.heap.size < ((w.setCell ⟨B, 2, none⟩ (.int .i64 ((d.pl : Int) + 1))).alloc (.cells #[.int .i64 16, .int .i64 (a : Int), .int .i64 b, .int .i64 c, .int .i64 (n : Int), .int .u64 (k : Int)] 66)).heap.size := by simp
  generalize ((w.setCell ⟨B, 2, none⟩ (.int .i64 ((d.pl : Int) + 1))).alloc (.cells #[.int .i64 16, .int .i64 (a : Int), .int .i64 b, .int .i64 c, .int .i64 (n : Int), .int .u64 (k : Int)] 66)) = W0 at *
  have cR : W0.cell? ⟨B, 4 + a, none⟩ = some (.int .u64 (r : Int)) := by rw [← hr]; exact hR0.b.cell (Dc.gR hR0.b.r8 v nv pv fuel a ha)
  have z2 := hR0.b.z 2
  have c1 := hR0.b.cell (Dc.g_v hR0.b.r8 v nv pv fuel)
  have c2' : W0.cell? ⟨B, 2, none⟩ = some (.int .i64 ((d.pl : Int) + 1)) := hR0.b.cell (Dc.g_pl hR0.b.r8 v nv pv fuel)
  have hlt0 := hR0.b.lt
  have HR0 := hide hR0
  have HM0 := hide hM0
  clear hR0 hM0 c2 hz
  have HCi := hide (fun w' => rint_any r hw w')
  rw [int_yes hc.1] at HCi
  obtain ⟨cb, off, ccap, rfl, -, -⟩ := HR0.out.c
  generalize hV : Gn.intV r = V at *
  have hB0 : Below W0.heap.size W0 W0.drew := bd_drew W0 1
  go_region_held3 (fun w' => w'.cell? ⟨w.heap.size, 1, none⟩ = some (.int .i64 (a : Int)) ∧ w'.cell? ⟨B, 4 + a, none⟩ = some (.int .u64 (r : Int))) (first | assumption | exact ⟨q1, q2⟩ | exact ⟨x1, cR⟩ | go_keep) ((go_at_call 67; refine (HCi.out _).mono ?_; rintro e w9 ⟨rfl, hb9⟩; have q1 : w9.cell? ⟨w.heap.size, 1, none⟩ = some (.int .i64 (a : Int)) := (hb9.cell (p := ⟨w.heap.size, 1, none⟩) hsz0).trans x1; have q2 : w9.cell? ⟨B, 4 + a, none⟩ = some (.int .u64 (r : Int)) := (hb9.cell (p := ⟨B, 4 + a, none⟩) hlt0).trans cR))
  have hb90 : Below W0.heap.size W0 w9 := hB0.trans hb9
  have HR9 := hide (HR0.out.below hb90)
  have HM9 := hide (HM0.out.trans (mw_below hb90))
  have z29 := HR9.out.b.z 2
  have c19 := HR9.out.b.cell (Dc.g_v HR9.out.b.r8 _ nv pv fuel)
  have c29 : w9.cell? ⟨B, 2, none⟩ = some (.int .i64 ((d.pl : Int) + 1)) := HR9.out.b.cell (Dc.g_pl HR9.out.b.r8 _ nv pv fuel)
  have hlt9 := HR9.out.b.lt
  clear hb9 hb90 x1 x4 cR c1 c2' z2 q1 q2
  obtain ⟨V, rfl⟩ : ∃ q : Nat, V = (q : Int) := ⟨V.toNat, by omega⟩
  go_wp2_with fail
  go_ret
  refine ⟨nv, pv, rfl, ?_, HM9.out.trans (mw_set _ 2 _)⟩
  exact HR9.out.set (Dc.s_pl (m := { d with pl := d.pl + 1 }) HR9.out.b.r8 _ nv pv fuel V) HR9.out.b.r8
set_option maxRecDepth 20000 in
set_option maxHeartbeats 1000000 in
theorem flows_goton {w : World} {B fuel : Nat} {d : Dc} {ns ps : List Nat} {v nv pv : Value} {xs : List In} {x : In} (h : Rm w B d ns ps v nv pv xs fuel) (hpl : d.pl < 1000000) (g : x.Good xs.length) (hop : x.op = 16) (hw : d.R[x.a.toNat]! < 18446744073709551616)  (hc : ¬ (Gn.intOk d.R[x.a.toNat]! = true ∧ 0 ≤ Gn.intV d.R[x.a.toNat]! ∧ Gn.intV d.R[x.a.toNat]! ≤ (xs.length : Int))) :
    Calls Tryz.prog 43 #[.pointer (some ⟨B, 0, none⟩), .agg x.cs.toArray] w (FlP w B (Im.flw d ns ps x xs.length) v nv pv xs fuel) := by
  have c2 := h.b.cell (Dc.g_pl h.b.r8 v nv pv fuel)
  have hz := h.b.z
  have hlt := h.b.lt
  have HR := hide h
  obtain ⟨op, a, b, c, n, k⟩ := x
  simp only at hop
  subst hop
  have hn0 := g.n0
  have ha0 := g.a0
  have ha1 := g.a1
  simp only at hn0 ha0 ha1
  obtain ⟨n, rfl⟩ : ∃ q : Nat, n = (q : Int) := ⟨n.toNat, by omega⟩
  obtain ⟨a, rfl⟩ : ∃ q : Nat, a = (q : Int) := ⟨a.toNat, by omega⟩
  have ha : a < 8 := by omega
  obtain ⟨r, hr⟩ : ∃ r, d.R[a]! = r := ⟨_, rfl⟩
  simp only [Int.toNat_natCast] at hw hc
  rw [hr] at hw hc
  have hai : (a : Int) < 8 := by omega
  have e1 : Im.flw d ns ps ⟨16, (a : Int), b, c, (n : Int), k⟩ xs.length = (4, { d with pl := d.pl + 1 }, ns, ps) := by show (if Gn.intOk d.R[a]! = true ∧ 0 ≤ Gn.intV d.R[a]! ∧ Gn.intV d.R[a]! ≤ (xs.length : Int) then (0, { d with pl := (Gn.intV d.R[a]!).toNat }, ns, ps) else (4, { d with pl := d.pl + 1 }, ns, ps)) = _; rw [hr]; exact if_neg hc
  rw [e1]
  simp only [In.cs]
  clear g h
  go_enter Tryz.func43, Tryz.ntmps43
  go_wp2_with fail
  have hR0 : Rm ((w.setCell ⟨B, 2, none⟩ (.int .i64 ((d.pl : Int) + 1))).alloc (.cells #[.int .i64 16, .int .i64 (a : Int), .int .i64 b, .int .i64 c, .int .i64 (n : Int), .int .u64 (k : Int)] 66)) B { d with pl := d.pl + 1 } ns ps v nv pv xs fuel := (HR.out.set (Dc.s_pl HR.out.b.r8 v nv pv fuel (d.pl + 1)) HR.out.b.r8).below (below_one _ _)
  have hM0 : Mw (ftD B nv pv) (ftD B nv pv) w ((w.setCell ⟨B, 2, none⟩ (.int .i64 ((d.pl : Int) + 1))).alloc (.cells #[.int .i64 16, .int .i64 (a : Int), .int .i64 b, .int .i64 c, .int .i64 (n : Int), .int .u64 (k : Int)] 66)) := (mw_set w 2 _).trans (mw_below (below_one _ _))
  have x1 : ((w.setCell ⟨B, 2, none⟩ (.int .i64 ((d.pl : Int) + 1))).alloc (.cells #[.int .i64 16, .int .i64 (a : Int), .int .i64 b, .int .i64 c, .int .i64 (n : Int), .int .u64 (k : Int)] 66)).cell? ⟨w.heap.size, 1, none⟩ = some (.int .i64 (a : Int)) := cell_of_block (blk_new w B 2 _ _) rfl
  have x4 : ((w.setCell ⟨B, 2, none⟩ (.int .i64 ((d.pl : Int) + 1))).alloc (.cells #[.int .i64 16, .int .i64 (a : Int), .int .i64 b, .int .i64 c, .int .i64 (n : Int), .int .u64 (k : Int)] 66)).cell? ⟨w.heap.size, 4, none⟩ = some (.int .i64 (n : Int)) := cell_of_block (blk_new w B 2 _ _) rfl
  have hsz0 : w.heap.size < ((w.setCell ⟨B, 2, none⟩ (.int .i64 ((d.pl : Int) + 1))).alloc (.cells #[.int .i64 16, .int .i64 (a : Int), .int .i64 b, .int .i64 c, .int .i64 (n : Int), .int .u64 (k : Int)] 66)).heap.size := by simp
  generalize ((w.setCell ⟨B, 2, none⟩ (.int .i64 ((d.pl : Int) + 1))).alloc (.cells #[.int .i64 16, .int .i64 (a : Int), .int .i64 b, .int .i64 c, .int .i64 (n : Int), .int .u64 (k : Int)] 66)) = W0 at *
  have cR : W0.cell? ⟨B, 4 + a, none⟩ = some (.int .u64 (r : Int)) := by rw [← hr]; exact hR0.b.cell (Dc.gR hR0.b.r8 v nv pv fuel a ha)
  have z2 := hR0.b.z 2
  have c1 := hR0.b.cell (Dc.g_v hR0.b.r8 v nv pv fuel)
  have c2' : W0.cell? ⟨B, 2, none⟩ = some (.int .i64 ((d.pl : Int) + 1)) := hR0.b.cell (Dc.g_pl hR0.b.r8 v nv pv fuel)
  have hlt0 := hR0.b.lt
  have HR0 := hide hR0
  have HM0 := hide hM0
  clear hR0 hM0 c2 hz
  have HCi := hide (fun w' => rint_any r hw w')
  by_cases hok : Gn.intOk r = true
  · rw [int_yes hok] at HCi
    obtain ⟨cb, off, ccap, rfl, -, -⟩ := HR0.out.c
    have hc2 : Gn.intV r < 0 ∨ (xs.length : Int) < Gn.intV r := by
      rcases Int.lt_or_le (Gn.intV r) 0 with h | h
      · exact .inl h
      · exact .inr (Int.lt_of_not_ge (fun h2 => hc ⟨hok, h, h2⟩))
    clear hc e1
    generalize Gn.intV r = V at *
    have hB0 : Below W0.heap.size W0 W0.drew := bd_drew W0 1
    go_region_held3 (fun w' => w'.cell? ⟨w.heap.size, 1, none⟩ = some (.int .i64 (a : Int)) ∧ w'.cell? ⟨B, 4 + a, none⟩ = some (.int .u64 (r : Int))) (first | assumption | exact ⟨q1, q2⟩ | exact ⟨x1, cR⟩ | go_keep) ((go_at_call 67; refine (HCi.out _).mono ?_; rintro e w9 ⟨rfl, hb9⟩; have q1 : w9.cell? ⟨w.heap.size, 1, none⟩ = some (.int .i64 (a : Int)) := (hb9.cell (p := ⟨w.heap.size, 1, none⟩) hsz0).trans x1; have q2 : w9.cell? ⟨B, 4 + a, none⟩ = some (.int .u64 (r : Int)) := (hb9.cell (p := ⟨B, 4 + a, none⟩) hlt0).trans cR))
    have hb90 : Below W0.heap.size W0 w9 := hB0.trans hb9
    have HR9 := hide (HR0.out.below hb90)
    have HM9 := hide (HM0.out.trans (mw_below hb90))
    have z29 := HR9.out.b.z 2
    have c19 := HR9.out.b.cell (Dc.g_v HR9.out.b.r8 _ nv pv fuel)
    have c29 : w9.cell? ⟨B, 2, none⟩ = some (.int .i64 ((d.pl : Int) + 1)) := HR9.out.b.cell (Dc.g_pl HR9.out.b.r8 _ nv pv fuel)
    have hlt9 := HR9.out.b.lt
    clear hb9 hb90 x1 x4 cR c1 c2' z2 q1 q2
    by_cases hv0 : V < 0
    · go_wp2_with fail
      go_ret
      exact ⟨nv, pv, rfl, HR9.out, HM9.out⟩
    · have hv1 : (xs.length : Int) < V := by omega
      go_wp2_with fail
      go_ret
      exact ⟨nv, pv, rfl, HR9.out, HM9.out⟩
  · have hok2 : Gn.intOk r = false := by simpa using hok
    rw [int_no hok2] at HCi
    obtain ⟨cb, off, ccap, rfl, -, -⟩ := HR0.out.c
    clear hc e1
    have hB0 : Below W0.heap.size W0 W0.drew := bd_drew W0 1
    go_region_held3 (fun w' => w'.cell? ⟨w.heap.size, 1, none⟩ = some (.int .i64 (a : Int)) ∧ w'.cell? ⟨B, 4 + a, none⟩ = some (.int .u64 (r : Int))) (first | assumption | exact ⟨q1, q2⟩ | exact ⟨x1, cR⟩ | go_keep) ((go_at_call 67; refine (HCi.out _).mono ?_; rintro e w9 ⟨rfl, hb9⟩; have q1 : w9.cell? ⟨w.heap.size, 1, none⟩ = some (.int .i64 (a : Int)) := (hb9.cell (p := ⟨w.heap.size, 1, none⟩) hsz0).trans x1; have q2 : w9.cell? ⟨B, 4 + a, none⟩ = some (.int .u64 (r : Int)) := (hb9.cell (p := ⟨B, 4 + a, none⟩) hlt0).trans cR))
    have hb90 : Below W0.heap.size W0 w9 := hB0.trans hb9
    have HR9 := hide (HR0.out.below hb90)
    have HM9 := hide (HM0.out.trans (mw_below hb90))
    have z29 := HR9.out.b.z 2
    have c19 := HR9.out.b.cell (Dc.g_v HR9.out.b.r8 _ nv pv fuel)
    have c29 : w9.cell? ⟨B, 2, none⟩ = some (.int .i64 ((d.pl : Int) + 1)) := HR9.out.b.cell (Dc.g_pl HR9.out.b.r8 _ nv pv fuel)
    have hlt9 := HR9.out.b.lt
    clear hb9 hb90 x1 x4 cR c1 c2' z2 q1 q2
    go_wp2_with fail
    go_ret
    exact ⟨nv, pv, rfl, HR9.out, HM9.out⟩
end Go.Proofs.YthjngodkpldpfaaGreatDoor
end

section
namespace Go.Proofs.YthjngodkpldpfaaGreatDoor
open Go.RowKit Go.Shelf

/-- flows at every op that is its own -/
theorem flows_any {w : World} {B fuel : Nat} {d : Dc} {ns ps : List Nat} {v nv pv : Value} {xs : List In} {x : In} (h : Rm w B d ns ps v nv pv xs fuel) (hpl : d.pl < 1000000) (g : x.Good xs.length) (hns : ns.length ≤ 8) (hps : ps.length ≤ 8) (hw : d.R[x.a.toNat]! < 18446744073709551616)
    (h13 : 13 < x.op) (h21 : x.op ≠ 21) (h22 : x.op ≠ 22) :
    Calls Tryz.prog 43 #[.pointer (some ⟨B, 0, none⟩), .agg x.cs.toArray] w (FlP w B (Im.flw d ns ps x xs.length) v nv pv xs fuel) := by
  have h24 := g.op2
  have hc : x.op = 14 ∨ x.op = 15 ∨ x.op = 16 ∨ x.op = 17 ∨ x.op = 18 ∨ x.op = 19 ∨ x.op = 20 ∨ x.op = 23 ∨ x.op = 24 := by omega
  rcases hc with h1 | h1 | h1 | h1 | h1 | h1 | h1 | h1 | h1
  · exact flows_jump h hpl g h1
  · by_cases hz : clsN d.R[x.a.toNat]! = 2
    · exact flows_ifz h hpl g h1 hw hz
    · exact flows_ifn h hpl g h1 hw hz
  · by_cases hz : Gn.intOk d.R[x.a.toNat]! = true ∧ 0 ≤ Gn.intV d.R[x.a.toNat]! ∧ Gn.intV d.R[x.a.toNat]! ≤ (xs.length : Int)
    · exact flows_gotoy h hpl g h1 hw hz
    · exact flows_goton h hpl g h1 hw hz
  · by_cases h8 : ps.length = 8
    · exact flows_call8 h hpl g h1 h8
    · exact flows_call h hpl g h1 hps h8
  · by_cases h8 : ps.length = 0
    · exact flows_ret0 h hpl g h1 h8
    · exact flows_ret h hpl g h1 hps h8
  · by_cases h8 : ns.length = 8
    · exact flows_push8 h hpl g h1 h8
    · exact flows_push h hpl g h1 hns h8
  · by_cases h8 : ns.length = 0
    · exact flows_pop0 h hpl g h1 h8
    · exact flows_pop h hpl g h1 hns h8
  · exact flows_fail h hpl g h1
  · exact flows_halt h hpl g h1
/-- the document's cells of a machine -/
def Dc.of (m : Mc) : Dc := ⟨m.pl, m.dn, m.R, m.ch, m.pc, m.ov, m.en, Im.resB m⟩
theorem take_set (l : List Nat) (k x : Nat) (h : k < l.length) : (l.set k x).take (k + 1) = l.take k ++ [x] := by
  rw [List.take_add_one, List.getElem?_set_self h, List.take_set, List.set_eq_of_length_le (by rw [List.length_take]; omega)]
  rfl
theorem take_last (l : List Nat) (k : Nat) (h0 : 0 < k) (h : k ≤ l.length) : (l.take k)[(l.take k).length - 1]! = l[k - 1]! ∧ (l.take k).take ((l.take k).length - 1) = l.take (k - 1) := by
  have hl : (l.take k).length = k := by rw [List.length_take]; omega
  rw [hl]
  refine ⟨?_, ?_⟩
  · rw [getElem!_pos (l.take k) (k - 1) (by omega), getElem!_pos l (k - 1) (by omega), List.getElem_take]
  · rw [List.take_take]; congr 1; omega
/-- the document's flows does what an instruction comes to -/
theorem flw_do {m : Mc} {many fuel : Nat} (x : In) (hm : m.Fit many fuel) (h13 : 13 < x.op) (h21 : x.op ≠ 21) (h22 : x.op ≠ 22) (d : Dc) (hd : d.pl = m.pl) (hR : d.R = m.R) :
    (Im.flw d (m.S.take m.sn) (m.P.take m.pn) x many).1 = (Im.doM { m with pl := m.pl + 1 } x many).1 ∧
    (Im.flw d (m.S.take m.sn) (m.P.take m.pn) x many).2.1 = { d with pl := (Im.doM { m with pl := m.pl + 1 } x many).2.1.pl, R := (Im.doM { m with pl := m.pl + 1 } x many).2.1.R } ∧
    (Im.flw d (m.S.take m.sn) (m.P.take m.pn) x many).2.2.1 = (Im.doM { m with pl := m.pl + 1 } x many).2.1.S.take (Im.doM { m with pl := m.pl + 1 } x many).2.1.sn ∧
    (Im.flw d (m.S.take m.sn) (m.P.take m.pn) x many).2.2.2 = (Im.doM { m with pl := m.pl + 1 } x many).2.1.P.take (Im.doM { m with pl := m.pl + 1 } x many).2.1.pn ∧
    (Im.doM { m with pl := m.pl + 1 } x many).2.2.1 = 0 ∧ (Im.doM { m with pl := m.pl + 1 } x many).2.2.2 = ByteArray.empty := by
  have hsl : (m.S.take m.sn).length = m.sn := by rw [List.length_take]; have := hm.lS; have := hm.sn; omega
  have hpl : (m.P.take m.pn).length = m.pn := by rw [List.length_take]; have := hm.lP; have := hm.pn; omega
  have hS := hm.lS
  have hP := hm.lP
  have hsn := hm.sn
  have hpn := hm.pn
  obtain ⟨op, a, b, c, n, k⟩ := x
  simp only at h13 h21 h22
  obtain ⟨dpl, ddn, dR, dch, dpc, dov, drc, drb⟩ := d
  simp only at hd hR
  subst hd hR
  unfold Im.flw Im.doM
  simp only
  rw [if_neg (show ¬ op = 1 by omega), if_neg (show ¬ op ≤ 13 by omega)]
  by_cases h14 : op = 14
  · rw [if_pos h14, if_pos h14]; exact ⟨rfl, rfl, rfl, rfl, rfl, rfl⟩
  rw [if_neg h14, if_neg h14]
  by_cases h15 : op = 15
  · rw [if_pos h15, if_pos h15]; exact ⟨rfl, rfl, rfl, rfl, rfl, rfl⟩
  rw [if_neg h15, if_neg h15]
  by_cases h16 : op = 16
  · rw [if_pos h16, if_pos h16]
    split
    · exact ⟨rfl, rfl, rfl, rfl, rfl, rfl⟩
    · exact ⟨rfl, rfl, rfl, rfl, rfl, rfl⟩
  rw [if_neg h16, if_neg h16]
  by_cases h17 : op = 17
  · rw [if_pos h17, if_pos h17, hpl]
    by_cases h8 : m.pn = 8
    · rw [if_pos h8, if_pos h8]; exact ⟨rfl, rfl, rfl, rfl, rfl, rfl⟩
    · rw [if_neg h8, if_neg h8]
      refine ⟨rfl, rfl, rfl, ?_, rfl, rfl⟩
      exact (take_set m.P m.pn (m.pl + 1) (by omega)).symm
  rw [if_neg h17, if_neg h17]
  by_cases h18 : op = 18
  · rw [if_pos h18, if_pos h18]
    by_cases h8 : m.pn = 0
    · rw [if_pos (by rw [hpl]; exact h8), if_pos h8]; exact ⟨rfl, rfl, rfl, rfl, rfl, rfl⟩
    · rw [if_neg (by rw [hpl]; exact h8), if_neg h8]
      obtain ⟨t1, t2⟩ := take_last m.P m.pn (by omega) (by omega)
      rw [t1, t2]
      exact ⟨rfl, rfl, rfl, rfl, rfl, rfl⟩
  rw [if_neg h18, if_neg h18]
  by_cases h19 : op = 19
  · rw [if_pos h19, if_pos h19, hsl]
    by_cases h8 : m.sn = 8
    · rw [if_pos h8, if_pos h8]; exact ⟨rfl, rfl, rfl, rfl, rfl, rfl⟩
    · rw [if_neg h8, if_neg h8]
      refine ⟨rfl, rfl, ?_, rfl, rfl, rfl⟩
      exact (take_set m.S m.sn _ (by omega)).symm
  rw [if_neg h19, if_neg h19]
  by_cases h20 : op = 20
  · rw [if_pos h20, if_pos h20]
    by_cases h8 : m.sn = 0
    · rw [if_pos (by rw [hsl]; exact h8), if_pos h8]; exact ⟨rfl, rfl, rfl, rfl, rfl, rfl⟩
    · rw [if_neg (by rw [hsl]; exact h8), if_neg h8]
      obtain ⟨t1, t2⟩ := take_last m.S m.sn (by omega) (by omega)
      rw [t1, t2]
      exact ⟨rfl, rfl, rfl, rfl, rfl, rfl⟩
  rw [if_neg h20, if_neg h20, if_neg h21, if_neg h22]
  by_cases h23 : op = 23
  · rw [if_pos h23, if_pos h23]; exact ⟨rfl, rfl, rfl, rfl, rfl, rfl⟩
  · rw [if_neg h23, if_neg h23]; exact ⟨rfl, rfl, rfl, rfl, rfl, rfl⟩
end Go.Proofs.YthjngodkpldpfaaGreatDoor
end
