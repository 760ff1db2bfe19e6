import Derived.Test.YthjngodkpldpfaaGreatDoorMgAX
import Derived.Test.YthjngodkpldpfaaGreatDoorMgBF
import Derived.Test.YthjngodkpldpfaaGreatDoorMgBG
import Derived.Test.YthjngodkpldpfaaGreatDoorMgAI
import Derived.Test.YthjngodkpldpfaaGreatDoorMgAZ

section
namespace Go.Proofs.YthjngodkpldpfaaGreatDoor
open Go.RowKit Go.Shelf

theorem ord_range (a b : Nat) : -1 ≤ ordW a b ∧ ordW a b ≤ 1 := by
  unfold ordW cmpW
  repeat' split
  all_goals omega
theorem of_one1 : ofW 1 = 4607182418800017408 := by decide
theorem of_zero0 : ofW 0 = 0 := by decide
set_option maxHeartbeats 1000000 in
/-- the document's reckoning -/
theorem reckons_any (op : Int) (h2 : 2 ≤ op) (h13 : op ≤ 13) (b c : Nat) (hb : b < 18446744073709551616) (hc : c < 18446744073709551616) (w : World) :
    Calls Tryz.prog 41 #[.int .i64 op, .int .u64 (b : Int), .int .u64 (c : Int)] w fun e w' => e = .returned (.int .u64 (Im.reck op b c : Int)) ∧ Below w.heap.size w w' := by
  have H1 := hide (fun w => radd_any b c hb hc w)
  have H2 := hide (fun w => rsub_any b c hb hc w)
  have H3 := hide (fun w => rmul_any b c hb hc w)
  have H4 := hide (fun w => rdiv_any b c hb hc w)
  have H5 := hide (fun w => rmin_any b c hb hc w)
  have H6 := hide (fun w => rmax_any b c hb hc w)
  have H7 := hide (fun w => rless_any b c hb hc w)
  have H8 := hide (fun w => rorder_any b c hb hc w)
  have ho := ord_range b c
  have H9 := hide (fun w => rof_any (ordW b c) (by omega) (by omega) w)
  have H10 := hide (fun w => rneg_any b hb w)
  have H11 := hide (fun w => rabs_any b hb w)
  have H12 := hide (fun w => rfloor_any b hb w)
  have ho1 := ho.1
  have ho2 := ho.2
  clear hb hc ho
  have h12 : op = 2 ∨ op = 3 ∨ op = 4 ∨ op = 5 ∨ op = 6 ∨ op = 7 ∨ op = 8 ∨ op = 9 ∨ op = 10 ∨ op = 11 ∨ op = 12 ∨ op = 13 := by omega
  rcases h12 with rfl | rfl | rfl | rfl | rfl | rfl | rfl | rfl | rfl | rfl | rfl | rfl
  · rw [reck_2]
    go_enter Tryz.func41, Tryz.ntmps41
    go_wp2_with fail
    go_ret
    exact ⟨rfl, Below.refl _ _⟩
  · rw [reck_3]
    go_enter Tryz.func41, Tryz.ntmps41
    go_wp2_with fail
    refine (H1.out _).mono ?_
    rintro e w1 ⟨rfl, hb1⟩
    go_wp2_with fail
    go_ret
    exact ⟨rfl, hb1⟩
  · rw [reck_4]
    go_enter Tryz.func41, Tryz.ntmps41
    go_wp2_with fail
    refine (H2.out _).mono ?_
    rintro e w1 ⟨rfl, hb1⟩
    go_wp2_with fail
    go_ret
    exact ⟨rfl, hb1⟩
  · rw [reck_5]
    go_enter Tryz.func41, Tryz.ntmps41
    go_wp2_with fail
    refine (H3.out _).mono ?_
    rintro e w1 ⟨rfl, hb1⟩
    go_wp2_with fail
    go_ret
    exact ⟨rfl, hb1⟩
  · rw [reck_6]
    go_enter Tryz.func41, Tryz.ntmps41
    go_wp2_with fail
    refine (H4.out _).mono ?_
    rintro e w1 ⟨rfl, hb1⟩
    go_wp2_with fail
    go_ret
    exact ⟨rfl, hb1⟩
  · rw [reck_7]
    go_enter Tryz.func41, Tryz.ntmps41
    go_wp2_with fail
    refine (H5.out _).mono ?_
    rintro e w1 ⟨rfl, rfl⟩
    go_wp2_with fail
    go_ret
    exact ⟨rfl, Below.refl _ _⟩
  · rw [reck_8]
    go_enter Tryz.func41, Tryz.ntmps41
    go_wp2_with fail
    refine (H6.out _).mono ?_
    rintro e w1 ⟨rfl, rfl⟩
    go_wp2_with fail
    go_ret
    exact ⟨rfl, Below.refl _ _⟩
  · rw [reck_9]
    rw [of_one1, of_zero0]
    cases hl : ltW b c
    · rw [hl] at H7
      go_enter Tryz.func41, Tryz.ntmps41
      go_wp2_with fail
      refine (H7.out _).mono ?_
      rintro e w1 ⟨rfl, rfl⟩
      go_wp2_with fail
      go_ret
      exact ⟨rfl, Below.refl _ _⟩
    · rw [hl] at H7
      go_enter Tryz.func41, Tryz.ntmps41
      go_wp2_with fail
      refine (H7.out _).mono ?_
      rintro e w1 ⟨rfl, rfl⟩
      go_wp2_with fail
      go_ret
      exact ⟨rfl, Below.refl _ _⟩
  · rw [reck_10]
    generalize ordW b c = o at *
    go_enter Tryz.func41, Tryz.ntmps41
    go_wp2_with fail
    refine (H8.out _).mono ?_
    rintro e w1 ⟨rfl, rfl⟩
    go_wp2_with fail
    refine (H9.out _).mono ?_
    rintro e w2 ⟨rfl, hb1⟩
    go_wp2_with fail
    go_ret
    exact ⟨rfl, hb1⟩
  · rw [reck_11]
    go_enter Tryz.func41, Tryz.ntmps41
    go_wp2_with fail
    refine (H10.out _).mono ?_
    rintro e w1 ⟨rfl, rfl⟩
    go_wp2_with fail
    go_ret
    exact ⟨rfl, Below.refl _ _⟩
  · rw [reck_12]
    go_enter Tryz.func41, Tryz.ntmps41
    go_wp2_with fail
    refine (H11.out _).mono ?_
    rintro e w1 ⟨rfl, rfl⟩
    go_wp2_with fail
    go_ret
    exact ⟨rfl, Below.refl _ _⟩
  · rw [reck_13]
    go_enter Tryz.func41, Tryz.ntmps41
    go_wp2_with fail
    refine (H12.out _).mono ?_
    rintro e w1 ⟨rfl, hb1⟩
    go_wp2_with fail
    go_ret
    exact ⟨rfl, hb1⟩
end Go.Proofs.YthjngodkpldpfaaGreatDoor
end

section
namespace Go.Proofs.YthjngodkpldpfaaGreatDoor
open Go.RowKit Go.Shelf

set_option maxRecDepth 20000 in
set_option maxHeartbeats 1000000 in
theorem flows_push {w : World} {B fuel : Nat} {d : Dc} {ns ps : List Nat} {v nv pv : Value} {xs : List In} {x : In} (h : Rm w B d ns ps v nv pv xs fuel) (hpl : d.pl < 1000000) (g : x.Good xs.length) (hop : x.op = 19) (hns : ns.length ≤ 8) (h8 : ¬ ns.length = 8) :
    Calls Tryz.prog 43 #[.pointer (some ⟨B, 0, none⟩), .agg x.cs.toArray] w (FlP w B (Im.flw d ns ps x xs.length) v nv pv xs fuel) := by
  have c2 := h.b.cell (Dc.g_pl h.b.r8 v nv pv fuel)
  have hz := h.b.z
  have hlt := h.b.lt
  have HR := hide h
  obtain ⟨op, a, b, c, n, k⟩ := x
  simp only at hop
  subst hop
  have hn0 := g.n0
  have ha0 := g.a0
  have ha1 := g.a1
  simp only at hn0 ha0 ha1
  obtain ⟨n, rfl⟩ : ∃ q : Nat, n = (q : Int) := ⟨n.toNat, by omega⟩
  obtain ⟨a, rfl⟩ : ∃ q : Nat, a = (q : Int) := ⟨a.toNat, by omega⟩
  have ha : a < 8 := by omega
  have c12 := h.b.cell (Dc.g_nv h.b.r8 v nv pv fuel)
  obtain ⟨pa, pcap, rfl⟩ := rown_slice h.n
  have hb8 : ((ns.length : Int) == 8) = false := by rw [beq_eq_false_iff_ne]; omega
  have e1 : Im.flw d ns ps ⟨19, (a : Int), b, c, (n : Int), k⟩ xs.length = (0, { d with pl := d.pl + 1 }, ns ++ [d.R[a]!], ps) := by show ite (ns.length = 8) _ _ = _; exact if_neg h8
  rw [e1]
  simp only [In.cs]
  clear g h
  go_enter Tryz.func43, Tryz.ntmps43
  go_wp2_with fail
  have hR0 : Rm ((w.setCell ⟨B, 2, none⟩ (.int .i64 ((d.pl : Int) + 1))).alloc (.cells #[.int .i64 19, .int .i64 (a : Int), .int .i64 b, .int .i64 c, .int .i64 (n : Int), .int .u64 (k : Int)] 66)) B { d with pl := d.pl + 1 } ns ps v (.slice pa ns.length pcap) pv xs fuel := (HR.out.set (Dc.s_pl HR.out.b.r8 v _ pv fuel (d.pl + 1)) HR.out.b.r8).below (below_one _ _)
  have hM0 : Mw (ftD B (.slice pa ns.length pcap) pv) (ftD B (.slice pa ns.length pcap) pv) w ((w.setCell ⟨B, 2, none⟩ (.int .i64 ((d.pl : Int) + 1))).alloc (.cells #[.int .i64 19, .int .i64 (a : Int), .int .i64 b, .int .i64 c, .int .i64 (n : Int), .int .u64 (k : Int)] 66)) := (mw_set w 2 _).trans (mw_below (below_one _ _))
  have x1 : ((w.setCell ⟨B, 2, none⟩ (.int .i64 ((d.pl : Int) + 1))).alloc (.cells #[.int .i64 19, .int .i64 (a : Int), .int .i64 b, .int .i64 c, .int .i64 (n : Int), .int .u64 (k : Int)] 66)).cell? ⟨w.heap.size, 1, none⟩ = some (.int .i64 (a : Int)) := cell_of_block (blk_new w B 2 _ _) rfl
  have hsz0 : w.heap.size < ((w.setCell ⟨B, 2, none⟩ (.int .i64 ((d.pl : Int) + 1))).alloc (.cells #[.int .i64 19, .int .i64 (a : Int), .int .i64 b, .int .i64 c, .int .i64 (n : Int), .int .u64 (k : Int)] 66)).heap.size := by simp
  generalize ((w.setCell ⟨B, 2, none⟩ (.int .i64 ((d.pl : Int) + 1))).alloc (.cells #[.int .i64 19, .int .i64 (a : Int), .int .i64 b, .int .i64 c, .int .i64 (n : Int), .int .u64 (k : Int)] 66)) = W0 at *
  have c12 := hR0.b.cell (Dc.g_nv hR0.b.r8 v (.slice pa ns.length pcap) pv fuel)
  have cR : W0.cell? ⟨B, 4 + a, none⟩ = some (.int .u64 (d.R[a]! : Int)) := hR0.b.cell (Dc.gR hR0.b.r8 v (.slice pa ns.length pcap) pv fuel a ha)
  obtain ⟨r, hr⟩ : ∃ r, d.R[a]! = r := ⟨_, rfl⟩
  rw [hr] at cR
  have hlt0 := hR0.b.lt
  have HR0 := hide hR0
  have HXN : Hid (Value.ownBlock (.slice pa ns.length pcap) ≠ some w.heap.size) := fun e => by have := (HR.out.n.lt _ e).2; omega
  have HM0 := hide hM0
  have HRE := hide hr
  clear hR0 hM0 c2 hz
  obtain ⟨i0, hi0, hz0, hz1, hz2⟩ := info_parts infoU64
  refine wp_region_but (S := (fun w' => w'.cell? ⟨B, 12, none⟩ = some (.slice pa ns.length pcap) ∧ w'.cell? ⟨w.heap.size, 1, none⟩ = some (.int .i64 (a : Int)) ∧ w'.cell? ⟨B, 4 + a, none⟩ = some (.int .u64 (r : Int)))) 16 (by kernel_rfl) ⟨c12, x1, cR⟩ (fun hH => ?_)
  refine anyBut_plain (i := 0) (v := .pointer (some ⟨B, 0, none⟩)) rfl (by decide) (by kernel_rfl) (by kernel_rfl) (by kernel_rfl) (fun _ _ _ h => h) (Or.inl ⟨by kernel_rfl, fun w9 _ => by kernel_rfl⟩) hH ?_
  simp only [Act.put, List.setIfInBounds_toArray]
  refine anyBut_plain (i := 1) (v := .pointer (some ⟨B, 0, none⟩)) rfl (by decide) (by kernel_rfl) (by kernel_rfl) (by kernel_rfl) (fun _ _ _ h => h) (Or.inl ⟨by kernel_rfl, fun w9 _ => by kernel_rfl⟩) hH ?_
  try simp only [Act.put]
  refine anyBut_plain (i := 2) (v := .pointer (some ⟨B, 0, none⟩)) rfl (by decide) (by kernel_rfl) (by kernel_rfl) (by kernel_rfl) (fun _ _ _ h => h) (Or.inl ⟨by kernel_rfl, fun w9 _ => by go_simp⟩) hH ?_
  try simp only [Act.put]
  refine anyBut_plain (i := 3) (v := .pointer (some ⟨B, 12, none⟩)) rfl (by decide) (by kernel_rfl) (by kernel_rfl) (by kernel_rfl) (fun _ _ _ h => h) (Or.inl ⟨by kernel_rfl, fun w9 _ => by go_simp⟩) hH ?_
  try simp only [Act.put]
  refine anyBut_load (i := 4) (v := .slice pa ns.length pcap) rfl (by decide) (by kernel_rfl) (by kernel_rfl) (by kernel_rfl) (by kernel_rfl) (by kernel_rfl) (fun _ _ _ h => h) (Or.inl ⟨by kernel_rfl, fun w9 hS => by obtain ⟨s0, s1, s2⟩ := hS; go_simp⟩) hH ?_
  try simp only [Act.put]
  refine anyBut_plain (i := 5) (v := .pointer (some ⟨B, 0, none⟩)) rfl (by decide) (by kernel_rfl) (by kernel_rfl) (by kernel_rfl) (fun _ _ _ h => h) (Or.inl ⟨by kernel_rfl, fun w9 _ => by kernel_rfl⟩) hH ?_
  try simp only [Act.put]
  refine anyBut_plain (i := 6) (v := .pointer (some ⟨w.heap.size, 1, none⟩)) rfl (by decide) (by kernel_rfl) (by kernel_rfl) (by kernel_rfl) (fun _ _ _ h => h) (Or.inl ⟨by kernel_rfl, fun w9 _ => by go_simp⟩) hH ?_
  try simp only [Act.put]
  refine anyBut_load (i := 7) (v := .int .i64 (a : Int)) rfl (by decide) (by kernel_rfl) (by kernel_rfl) (by kernel_rfl) (by kernel_rfl) (by kernel_rfl) (fun _ _ _ h => h) (Or.inl ⟨by kernel_rfl, fun w9 hS => by obtain ⟨s0, s1, s2⟩ := hS; go_simp⟩) hH ?_
  try simp only [Act.put]
  refine anyBut_plain (i := 8) (v := .pointer (some ⟨B, 0, none⟩)) rfl (by decide) (by kernel_rfl) (by kernel_rfl) (by kernel_rfl) (fun _ _ _ h => h) (Or.inl ⟨by kernel_rfl, fun w9 _ => by go_simp⟩) hH ?_
  try simp only [Act.put]
  refine anyBut_plain (i := 9) (v := .pointer (some ⟨B, 4, none⟩)) rfl (by decide) (by kernel_rfl) (by kernel_rfl) (by kernel_rfl) (fun _ _ _ h => h) (Or.inl ⟨by kernel_rfl, fun w9 _ => by go_simp⟩) hH ?_
  try simp only [Act.put]
  refine anyBut_plain (i := 10) (v := .pointer (some ⟨B, 4 + a, none⟩)) rfl (by decide) (by kernel_rfl) (by kernel_rfl) (by kernel_rfl) (fun _ _ _ h => h) (Or.inl ⟨by kernel_rfl, fun w9 _ => by go_simp⟩) hH ?_
  try simp only [Act.put]
  refine anyBut_load (i := 11) (v := .int .u64 (r : Int)) rfl (by decide) (by kernel_rfl) (by kernel_rfl) (by kernel_rfl) (by kernel_rfl) (by kernel_rfl) (fun _ _ _ h => h) (Or.inl ⟨by kernel_rfl, fun w9 hS => by obtain ⟨s0, s1, s2⟩ := hS; go_simp⟩) hH ?_
  try simp only [Act.put]
  refine anyBut_one (i := 12) rfl (by kernel_rfl) (fun K hK => ?_)
  go_simp
  have q1 : (W0.drew.alloc (.cells #[.int .u64 (r : Int)] 43)).cell? ⟨B, 12, none⟩ = some (.slice pa ns.length pcap) := Lib.cell?_alloc_some _ c12
  have q2 : (W0.drew.alloc (.cells #[.int .u64 (r : Int)] 43)).cell? ⟨w.heap.size, 1, none⟩ = some (.int .i64 (a : Int)) := Lib.cell?_alloc_some _ x1
  have q3 : (W0.drew.alloc (.cells #[.int .u64 (r : Int)] 43)).cell? ⟨B, 4 + a, none⟩ = some (.int .u64 (r : Int)) := Lib.cell?_alloc_some _ cR
  refine hK.out _ _ (fun _ => ⟨q1, q2, q3⟩) ?_
  clear hK K
  try simp only [Act.put]
  refine anyBut_one (i := 13) rfl (by kernel_rfl) (fun K hK => ?_)
  refine step_append_lies _ rfl (.tmp 147) (.tmp 155) 83 rfl (B + 1) 43 i0 (.int .u64 0) 1 8 Tryz.underlying83 hi0 hz0 hz1 hz2 rfl (by decide) (.slice pa ns.length pcap) ns.length (un64 ns) rfl (rown_grown HR0.out.n (grown_da W0 _) (fun _ _ => by simp)) ⟨W0.heap.size, 0, none⟩ 1 1 [.int .u64 (r : Int)] rfl rfl (World.news_of_block (heap_alloc_new W0.drew _)) (by simp [Value.oneCell']) (by decide) (by unfold maxLen; omega) (by omega) (by simp; omega) _ rfl ?_
  intro g9 cap9 w9 hown9 hgrow9 hat9 hlt9
  have hnb : ∀ g, Value.ownBlock (.slice pa ns.length pcap) = some g → B + 1 ≤ g ∧ g < W0.heap.size := fun g e => HR0.out.n.lt g e
  have HR9 := hide ((HR0.out.b.grown (grown_da W0 _) (by simp)).grown hgrow9 (fun e => by have := (hnb B e.symm).1; omega))
  have q12 : w9.cell? ⟨B, 12, none⟩ = some (.slice pa ns.length pcap) := HR9.out.cell (Dc.g_nv HR9.out.r8 v _ pv fuel)
  have q5 : w9.cell? ⟨B, 4 + a, none⟩ = some (.int .u64 (r : Int)) := by rw [← hr]; exact HR9.out.cell (Dc.gR HR9.out.r8 v _ pv fuel a ha)
  have q4 : w9.cell? ⟨w.heap.size, 1, none⟩ = some (.int .i64 (a : Int)) := hgrow9.cell q2 (fun e => HXN.out e.symm)
  have qz := HR9.out.z 12
  have HOW9 := hide hown9
  have HGR9 := hide hgrow9
  have HAT9 := hide hat9
  have hlt9B := HR9.out.lt
  clear hown9 hgrow9 hat9 q1 q2 q3 hnb
  refine hK.out _ _ (fun _ => ⟨q12, q4, q5⟩) ?_
  clear hK K
  try simp only [Act.put]
  refine anyBut_plain (i := 14) (v := .pointer (some ⟨B, 0, none⟩)) rfl (by decide) (by kernel_rfl) (by kernel_rfl) (by kernel_rfl) (fun _ _ _ h => h) (Or.inl ⟨by kernel_rfl, fun w9 _ => by go_simp⟩) ⟨q12, q4, q5⟩ ?_
  try simp only [Act.put]
  refine anyBut_plain (i := 15) (v := .pointer (some ⟨B, 12, none⟩)) rfl (by decide) (by kernel_rfl) (by kernel_rfl) (by kernel_rfl) (fun _ _ _ h => h) (Or.inl ⟨by kernel_rfl, fun w9 _ => by go_simp⟩) ⟨q12, q4, q5⟩ ?_
  try simp only [Act.put]
  refine anyBut_one (i := 16) rfl (by kernel_rfl) (fun K hK => ?_)
  go_simp
  refine hK.out _ _ (fun h0 => absurd h0 (by decide)) (anyBut_done (by kernel_rfl) ?_ _)
  clear hK K hH
  have HPP := hide (rm_pushN HR0.out (grown_da W0 _) HOW9.out rfl HGR9.out HAT9.out rfl)
  go_wp2_with fail
  go_ret
  refine ⟨_, pv, rfl, ?_, HM0.out.trans HPP.out.2⟩
  show Rm _ B { d with pl := d.pl + 1 } (ns ++ [d.R[a]!]) ps v _ pv xs fuel
  rw [HRE.out]
  exact HPP.out.1
end Go.Proofs.YthjngodkpldpfaaGreatDoor
end

section
namespace Go.Proofs.YthjngodkpldpfaaGreatDoor
open Go.RowKit Go.Shelf

set_option maxRecDepth 20000 in
set_option maxHeartbeats 1000000 in
theorem flows_pop {w : World} {B fuel : Nat} {d : Dc} {ns ps : List Nat} {v nv pv : Value} {xs : List In} {x : In} (h : Rm w B d ns ps v nv pv xs fuel) (hpl : d.pl < 1000000) (g : x.Good xs.length) (hop : x.op = 20) (hns : ns.length ≤ 8) (h8 : ¬ ns.length = 0) :
    Calls Tryz.prog 43 #[.pointer (some ⟨B, 0, none⟩), .agg x.cs.toArray] w (FlP w B (Im.flw d ns ps x xs.length) v nv pv xs fuel) := by
  have c2 := h.b.cell (Dc.g_pl h.b.r8 v nv pv fuel)
  have hz := h.b.z
  have hlt := h.b.lt
  have HR := hide h
  obtain ⟨op, a, b, c, n, k⟩ := x
  simp only at hop
  subst hop
  have hn0 := g.n0
  have ha0 := g.a0
  have ha1 := g.a1
  simp only at hn0 ha0 ha1
  obtain ⟨n, rfl⟩ : ∃ q : Nat, n = (q : Int) := ⟨n.toNat, by omega⟩
  obtain ⟨a, rfl⟩ : ∃ q : Nat, a = (q : Int) := ⟨a.toNat, by omega⟩
  have ha : a < 8 := by omega
  have c12 := h.b.cell (Dc.g_nv h.b.r8 v nv pv fuel)
  obtain ⟨pa, pcap, rfl⟩ := rown_slice h.n
  have hb8 : ((ns.length : Int) == 0) = false := by rw [beq_eq_false_iff_ne]; omega
  have e1 : Im.flw d ns ps ⟨20, (a : Int), b, c, (n : Int), k⟩ xs.length = (0, { d with pl := d.pl + 1, R := d.R.set a ns[ns.length - 1]! }, ns.take (ns.length - 1), ps) := by show ite (ns.length = 0) _ _ = _; exact if_neg h8
  rw [e1]
  simp only [In.cs]
  clear g h
  go_enter Tryz.func43, Tryz.ntmps43
  go_wp2_with fail
  have hR0 : Rm ((w.setCell ⟨B, 2, none⟩ (.int .i64 ((d.pl : Int) + 1))).alloc (.cells #[.int .i64 20, .int .i64 (a : Int), .int .i64 b, .int .i64 c, .int .i64 (n : Int), .int .u64 (k : Int)] 66)) B { d with pl := d.pl + 1 } ns ps v (.slice pa ns.length pcap) pv xs fuel := (HR.out.set (Dc.s_pl HR.out.b.r8 v _ pv fuel (d.pl + 1)) HR.out.b.r8).below (below_one _ _)
  have hM0 : Mw (ftD B (.slice pa ns.length pcap) pv) (ftD B (.slice pa ns.length pcap) pv) w ((w.setCell ⟨B, 2, none⟩ (.int .i64 ((d.pl : Int) + 1))).alloc (.cells #[.int .i64 20, .int .i64 (a : Int), .int .i64 b, .int .i64 c, .int .i64 (n : Int), .int .u64 (k : Int)] 66)) := (mw_set w 2 _).trans (mw_below (below_one _ _))
  have x1 : ((w.setCell ⟨B, 2, none⟩ (.int .i64 ((d.pl : Int) + 1))).alloc (.cells #[.int .i64 20, .int .i64 (a : Int), .int .i64 b, .int .i64 c, .int .i64 (n : Int), .int .u64 (k : Int)] 66)).cell? ⟨w.heap.size, 1, none⟩ = some (.int .i64 (a : Int)) := cell_of_block (blk_new w B 2 _ _) rfl
  have hsz0 : w.heap.size < ((w.setCell ⟨B, 2, none⟩ (.int .i64 ((d.pl : Int) + 1))).alloc (.cells #[.int .i64 20, .int .i64 (a : Int), .int .i64 b, .int .i64 c, .int .i64 (n : Int), .int .u64 (k : Int)] 66)).heap.size := by simp
  generalize ((w.setCell ⟨B, 2, none⟩ (.int .i64 ((d.pl : Int) + 1))).alloc (.cells #[.int .i64 20, .int .i64 (a : Int), .int .i64 b, .int .i64 c, .int .i64 (n : Int), .int .u64 (k : Int)] 66)) = W0 at *
  have c12 := hR0.b.cell (Dc.g_nv hR0.b.r8 v (.slice pa ns.length pcap) pv fuel)
  have cR : W0.cell? ⟨B, 4 + a, none⟩ = some (.int .u64 (d.R[a]! : Int)) := hR0.b.cell (Dc.gR hR0.b.r8 v (.slice pa ns.length pcap) pv fuel a ha)
  have hlt0 := hR0.b.lt
  have HR0 := hide hR0
  have HM0 := hide hM0
  clear hM0 c2 hz
  obtain ⟨m, hm⟩ : ∃ m, ns.length = m + 1 := ⟨ns.length - 1, by omega⟩
  obtain ⟨q, hq⟩ : ∃ q, ns[m]! = q := ⟨_, rfl⟩
  obtain ⟨gp, cap', hgp⟩ := own_some hR0.n (by omega)
  injection hgp with e1 e2 e3
  subst e1 e3
  have hrow := hR0.n.cells rfl m (.int .u64 (q : Int)) (by unfold un64; rw [List.getElem?_map, List.getElem?_eq_getElem (by omega), ← hq, getElem!_pos ns m (by omega)]; rfl)
  rw [addr_add, Nat.zero_add] at hrow
  have hgB := (hR0.n.lt gp rfl).1
  have zR := hR0.b.z (4 + a)
  have hpm : ns[ns.length - 1]! = q := by rw [hm, Nat.add_sub_cancel]; exact hq
  have HPM := hide hpm
  have hneg : ¬ gp = B := by omega
  have hneg2 : ¬ B = gp := by omega
  have hmb : (m : Int) + 1 ≤ 9 := by omega
  have hcap : (m : Int) ≤ (pcap : Int) := by have := own_cap HR0.out.n; omega
  clear hR0 hpm
  rw [hm] at c12
  have hw1 : IntKind.i64.wrap (m : Int) = (m : Int) := by rw [IntKind.wrap_i64]; omega
  have hw2 : IntKind.i64.wrap ((m : Int) + 1 - 1) = (m : Int) := by rw [IntKind.wrap_i64]; omega
  have hw3 : IntKind.i64.wrap (((m + 1 : Nat) : Int) - 1) = (m : Int) := by rw [IntKind.wrap_i64]; omega
  have hi0 : (0 : Int) ≤ (m : Int) := by omega
  have hi1 : (m : Int) < (m : Int) + 1 := by omega
  have hi2 : (m : Int) < ((m + 1 : Nat) : Int) := by omega
  have hR1 : Rm (W0.setCell ⟨B, 4 + a, none⟩ (.int .u64 (q : Int))) B { d with pl := d.pl + 1, R := d.R.set a q } ns ps v (.slice (some ⟨gp, 0, none⟩) ns.length pcap) pv xs fuel := HR0.out.set (Dc.sR (m := { d with pl := d.pl + 1 }) HR0.out.b.r8 v _ pv fuel a q ha) (by show (d.R.set a q).length = 8; rw [List.length_set]; exact HR0.out.b.r8)
  have kc12 : (W0.setCell ⟨B, 4 + a, none⟩ (.int .u64 (q : Int))).cell? ⟨B, 12, none⟩ = some (.slice (some ⟨gp, 0, none⟩) (m + 1) pcap) := by rw [← hm]; exact hR1.b.cell (Dc.g_nv hR1.b.r8 v _ pv fuel)
  have khr : (W0.setCell ⟨B, 4 + a, none⟩ (.int .u64 (q : Int))).cell? ⟨gp, m, none⟩ = some (.int .u64 (q : Int)) := (grown_set W0 B (4 + a) _).cell hrow (by simp; omega)
  have kx1 : (W0.setCell ⟨B, 4 + a, none⟩ (.int .u64 (q : Int))).cell? ⟨w.heap.size, 1, none⟩ = some (.int .i64 (a : Int)) := (grown_set W0 B (4 + a) _).cell x1 (by simp; omega)
  have HR1 := hide hR1
  clear hR1
  go_region_held3 (fun w' => w'.cell? ⟨B, 12, none⟩ = some (.slice (some ⟨gp, 0, none⟩) (m + 1) pcap) ∧ w'.cell? ⟨gp, m, none⟩ = some (.int .u64 (q : Int)) ∧ w'.cell? ⟨w.heap.size, 1, none⟩ = some (.int .i64 (a : Int))) (first | exact ⟨c12, hrow, x1⟩ | exact ⟨kc12, khr, kx1⟩ | go_keep) (fail)
  have HM1 := hide (HM0.out.trans (mw_set W0 (4 + a) (.int .u64 (q : Int))))
  generalize W0.setCell ⟨B, 4 + a, none⟩ (.int .u64 (q : Int)) = W1 at *
  clear c12 hrow khr cR zR HR0 HM0
  have z12 := HR1.out.b.z 12
  have hlt1 := HR1.out.b.lt
  go_wp2_with fail
  refine wp_region_but (S := (fun w' => w'.cell? ⟨B, 12, none⟩ = some (.slice (some ⟨gp, 0, none⟩) (m + 1) pcap))) 14 (by kernel_rfl) kc12 (fun hH => ?_)
  refine anyBut_plain (i := 0) (v := .pointer (some ⟨B, 0, none⟩)) rfl (by decide) (by kernel_rfl) (by kernel_rfl) (by kernel_rfl) (fun _ _ _ h => h) (Or.inl ⟨by kernel_rfl, fun w9 _ => by kernel_rfl⟩) hH ?_
  simp only [Act.put, List.setIfInBounds_toArray]
  refine anyBut_plain (i := 1) (v := .pointer (some ⟨B, 0, none⟩)) rfl (by decide) (by kernel_rfl) (by kernel_rfl) (by kernel_rfl) (fun _ _ _ h => h) (Or.inl ⟨by kernel_rfl, fun w9 _ => by kernel_rfl⟩) hH ?_
  try simp only [Act.put]
  refine anyBut_plain (i := 2) (v := .pointer (some ⟨B, 0, none⟩)) rfl (by decide) (by kernel_rfl) (by kernel_rfl) (by kernel_rfl) (fun _ _ _ h => h) (Or.inl ⟨by kernel_rfl, fun w9 _ => by go_simp⟩) hH ?_
  try simp only [Act.put]
  refine anyBut_plain (i := 3) (v := .pointer (some ⟨B, 12, none⟩)) rfl (by decide) (by kernel_rfl) (by kernel_rfl) (by kernel_rfl) (fun _ _ _ h => h) (Or.inl ⟨by kernel_rfl, fun w9 _ => by go_simp⟩) hH ?_
  try simp only [Act.put]
  refine anyBut_load (i := 4) (v := .slice (some ⟨gp, 0, none⟩) (m + 1) pcap) rfl (by decide) (by kernel_rfl) (by kernel_rfl) (by kernel_rfl) (by kernel_rfl) (by kernel_rfl) (fun _ _ _ h => h) (Or.inl ⟨by kernel_rfl, fun w9 hS => by go_simp⟩) hH ?_
  try simp only [Act.put]
  refine anyBut_plain (i := 5) (v := .pointer (some ⟨B, 0, none⟩)) rfl (by decide) (by kernel_rfl) (by kernel_rfl) (by kernel_rfl) (fun _ _ _ h => h) (Or.inl ⟨by kernel_rfl, fun w9 _ => by kernel_rfl⟩) hH ?_
  try simp only [Act.put]
  refine anyBut_plain (i := 6) (v := .pointer (some ⟨B, 0, none⟩)) rfl (by decide) (by kernel_rfl) (by kernel_rfl) (by kernel_rfl) (fun _ _ _ h => h) (Or.inl ⟨by kernel_rfl, fun w9 _ => by go_simp⟩) hH ?_
  try simp only [Act.put]
  refine anyBut_plain (i := 7) (v := .pointer (some ⟨B, 12, none⟩)) rfl (by decide) (by kernel_rfl) (by kernel_rfl) (by kernel_rfl) (fun _ _ _ h => h) (Or.inl ⟨by kernel_rfl, fun w9 _ => by go_simp⟩) hH ?_
  try simp only [Act.put]
  refine anyBut_load (i := 8) (v := .slice (some ⟨gp, 0, none⟩) (m + 1) pcap) rfl (by decide) (by kernel_rfl) (by kernel_rfl) (by kernel_rfl) (by kernel_rfl) (by kernel_rfl) (fun _ _ _ h => h) (Or.inl ⟨by kernel_rfl, fun w9 hS => by go_simp⟩) hH ?_
  try simp only [Act.put]
  refine anyBut_one (i := 9) rfl (by kernel_rfl) (fun K hK => ?_)
  go_simp
  refine hK.out _ _ (fun _ => kc12) ?_
  clear hK K
  try simp only [Act.put]
  refine anyBut_plain (i := 10) (v := .int .i64 (m : Int)) rfl (by decide) (by kernel_rfl) (by kernel_rfl) (by kernel_rfl) (fun _ _ _ h => h) (Or.inl ⟨by kernel_rfl, fun w9 _ => by go_simp⟩) hH ?_
  try simp only [Act.put]
  refine anyBut_plain (i := 11) (v := .slice (some ⟨gp, 0, none⟩) m pcap) rfl (by decide) (by kernel_rfl) (by kernel_rfl) (by kernel_rfl) (fun _ _ _ h => h) (Or.inl ⟨by kernel_rfl, fun w9 _ => by go_simp⟩) hH ?_
  try simp only [Act.put]
  refine anyBut_plain (i := 12) (v := .pointer (some ⟨B, 0, none⟩)) rfl (by decide) (by kernel_rfl) (by kernel_rfl) (by kernel_rfl) (fun _ _ _ h => h) (Or.inl ⟨by kernel_rfl, fun w9 _ => by go_simp⟩) hH ?_
  try simp only [Act.put]
  refine anyBut_plain (i := 13) (v := .pointer (some ⟨B, 12, none⟩)) rfl (by decide) (by kernel_rfl) (by kernel_rfl) (by kernel_rfl) (fun _ _ _ h => h) (Or.inl ⟨by kernel_rfl, fun w9 _ => by go_simp⟩) hH ?_
  try simp only [Act.put]
  refine anyBut_one (i := 14) rfl (by kernel_rfl) (fun K hK => ?_)
  go_simp
  refine hK.out _ _ (fun h0 => absurd h0 (by decide)) (anyBut_done (by kernel_rfl) ?_ _)
  clear hK K hH
  have hpop := rm_popN (HR1.out.below (bd_two W1)) (by omega)
  rw [hm, Nat.add_sub_cancel] at hpop
  have HPO := hide hpop
  have HMO := hide ((HM1.out.trans (mw_below (bd_two W1))).trans (mw_set W1.drew.drew 12 (.slice (some ⟨gp, 0, none⟩) m pcap)))
  clear hpop
  go_wp2_with fail
  go_ret
  refine ⟨.slice (some ⟨gp, 0, none⟩) m pcap, pv, rfl, ?_, HMO.out⟩
  show Rm _ B { d with pl := d.pl + 1, R := d.R.set a ns[ns.length - 1]! } (ns.take (ns.length - 1)) ps v _ pv xs fuel
  rw [HPM.out, hm, Nat.add_sub_cancel]
  exact HPO.out
end Go.Proofs.YthjngodkpldpfaaGreatDoor
end
