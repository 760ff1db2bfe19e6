import Derived.Test.YtepondcflkledaaGreatMgBE

section
namespace Go.Proofs.YtepondcflkledaaGreat.S
set_option maxRecDepth 20000
open Go.RowKit
open Rc (Ch)
open Q (Rr rr0 Qm Ft Mv)

/-- a reader in memory that has these bytes left -/
structure Rx (B : Nat) (b : ByteArray) (more : List UInt8) (w : World) : Prop where
  ex : ∃ p : Nat, Rd w B b (p : Int) 0 ∧ p ≤ b.size ∧ rest b p = more
section
variable {B : Nat} {b : ByteArray} {more : List UInt8} {w w' : World}
theorem Rx.lt (h : Rx B b more w) : B < w.heap.size := by obtain ⟨_, h1, _⟩ := h.ex; exact h1.lt
theorem Rx.below (h : Rx B b more w) (hb : Below w.heap.size w w') : Rx B b more w' := by
  obtain ⟨p, h1, h2, h3⟩ := h.ex
  exact ⟨p, (hb.block _ h1.lt).trans h1, h2, h3⟩
theorem Rx.drew (h : Rx B b more w) : Rx B b more w.drew := h.below (Below.refl _ _).drew
theorem Rx.set (h : Rx B b more w) {X : Nat} (k : Nat) (u : Value) (hX : B ≠ X) : Rx B b more (w.setCell ⟨X, k, none⟩ u) := by
  obtain ⟨p, h1, h2, h3⟩ := h.ex
  exact ⟨p, h1.other ⟨X, k, none⟩ u hX, h2, h3⟩
theorem Rx.set8 (h : Rx B b more w) {X : Nat} (F : Rr) (hX : B ≠ X) : Rx B b more (Q.set8 w X F) := by
  obtain ⟨p, h1, h2, h3⟩ := h.ex
  exact ⟨p, (Q.set8_other _ _ _ _ hX).trans h1, h2, h3⟩
theorem rx_pnum {N : Nat} (hb : b.size ≤ 140737488351232) (h : Rx B b (Pk.enc N ++ more) w) (hN : N ≤ 1099511627776) :
    Calls Tryz.prog 80 #[.pointer (some ⟨B, 0, none⟩), .int .u64 1099511627776] w fun e w' => e = .returned (.int .u64 (N : Int)) ∧ Rx B b more w' ∧ w.grownBy w' (some B) := by
  obtain ⟨p, hR, hp, hr⟩ := h.ex
  obtain ⟨k0, v0, q0⟩ := num_at (most := 1099511627776) (above := 21) hr (by omega) hN
  have h1 := rnum_any (most := 1099511627776) hR hp hb
  refine (show Calls Tryz.prog 80 #[.pointer (some ⟨B, 0, none⟩), .int .u64 1099511627776] w _ from h1).mono ?_
  intro e w' hF
  obtain ⟨e1, e2⟩ := hF.ok k0
  rw [v0] at e1
  rw [q0] at e2
  exact ⟨e1, ⟨_, e2, Wr.rest_in hp hr, Wr.rest_next hr⟩, hF.grown⟩
theorem rx_list {N M : Nat} (hb : b.size ≤ 140737488351232) (h : Rx B b (Pk.enc N ++ more) w) (hN : N ≤ M) (hM : M ≤ 1000) :
    Calls Tryz.prog 52 #[.pointer (some ⟨B, 0, none⟩), .int .i64 (M : Int)] w fun e w' => e = .returned (.int .i64 (N : Int)) ∧ Rx B b more w' ∧ w.grownBy w' (some B) := by
  obtain ⟨p, hR, hp, hr⟩ := h.ex
  obtain ⟨k0, v0, q0⟩ := num_at (most := M) (above := 23) hr (by omega) hN
  refine (rlist_any (most := (M : Int)) (by omega) hR hp hb).mono ?_
  intro e w' hF
  obtain ⟨e1, e2⟩ := hF.ok (by rw [Int.toNat_natCast]; exact k0)
  rw [v0] at e1
  rw [q0] at e2
  exact ⟨e1, ⟨_, e2, Wr.rest_in hp hr, Wr.rest_next hr⟩, hF.grown⟩
theorem rx_text {T : ByteArray} {M : Nat} (hb : b.size ≤ 140737488351232) (h : Rx B b ((Pk.enc T.size ++ T.data.toList) ++ more) w) (hN : T.size ≤ M) (hM : M ≤ 2000) :
    Calls Tryz.prog 85 #[.pointer (some ⟨B, 0, none⟩), .int .i64 (M : Int)] w fun e w' => e = .returned (.string T) ∧ Rx B b more w' ∧ w.grownBy w' (some B) := by
  obtain ⟨p, hR, hp, hr⟩ := h.ex
  obtain ⟨k0, v0, q0⟩ := text_at (most := M) hp hr hN (by omega)
  refine (rtext_any (most := (M : Int)) (by omega) hR hp hb).mono ?_
  intro e w' hF
  obtain ⟨e1, e2⟩ := hF.ok (by rw [Int.toNat_natCast]; exact k0)
  rw [v0] at e1
  rw [q0] at e2
  exact ⟨e1, ⟨_, e2, Wr.rest_in hp hr, Wr.rest_next hr⟩, hF.grown⟩
theorem rx_bits {N : Nat} (hb : b.size ≤ 140737488351232) (h : Rx B b (Pk.big8 N ++ more) w) (hN : N < 18446744073709551616) :
    Calls Tryz.prog 120 #[.pointer (some ⟨B, 0, none⟩)] w fun e w' => e = .returned (.int .u64 (N : Int)) ∧ Rx B b more w' ∧ w.grownBy w' (some B) := by
  obtain ⟨p, hR, hp, hr⟩ := h.ex
  obtain ⟨k0, v0⟩ := bits_at hp hr hN
  refine (rbits_any hR hp hb).mono ?_
  intro e w' hF
  obtain ⟨e1, e2⟩ := hF.ok k0
  rw [v0] at e1
  have h8 : (Pk.big8 N).length = 8 := by simp [Pk.big8]
  have h2 := Wr.rest_in hp hr
  have h3 := Wr.rest_next hr
  rw [h8] at h2 h3
  exact ⟨e1, ⟨_, e2, h2, h3⟩, hF.grown⟩
set_option maxHeartbeats 1000000 in
theorem rx_num {N : Nat} (hb : b.size ≤ 140737488351232) (h : Rx B b (Pk.enc N ++ more) w) (hN : N ≤ 1099511627776) :
    Calls Tryz.prog 51 #[.agg #[.pointer (some ⟨B, 0, none⟩)]] w fun e w' => e = .returned (.int .i64 (N : Int)) ∧ Rx B b more w' ∧ w.grownBy w' (some B) := by
  have H1 := hide (rx_pnum hb (h.below (below_alloc w (.cells #[.pointer (some ⟨B, 0, none⟩)] 120))) hN)
  have hl := h.lt
  clear h
  go_enter Tryz.func51, Tryz.ntmps51
  go_wp2_with fail
  refine H1.out.mono ?_
  rintro e w1 ⟨rfl, hx, hg⟩
  have HX := hide hx
  have HG := hide (grown_trans (grown_below (below_alloc w (.cells #[.pointer (some ⟨B, 0, none⟩)] 120)) _) hg)
  clear hx hg H1
  go_wp2_with fail
  go_ret
  exact ⟨rfl, HX.out, HG.out⟩
end
/-- what lies about while a row is read -/
structure Sr (w : World) (B : Nat) (O : Obj) (w' : World) : Prop where
  g : w.grownBy w' (some B)
  k : w'.heap[w.heap.size]? = some (.cells #[.pointer (some ⟨B, 0, none⟩)] 120 (0, 0))
  r : w'.heap[w.heap.size + 1]? = some O
section
variable {w w1 w2 : World} {B : Nat} {O : Obj}
theorem Sr.sz (h : Sr w B O w1) : w.heap.size + 2 ≤ w1.heap.size := by have := lt_of_block h.r; omega
theorem Sr.call (h : Sr w B O w1) (hg : w1.grownBy w2 (some B)) (hB : B < w.heap.size) : Sr w B O w2 :=
  ⟨grown_trans h.g hg, (hg.block _ (lt_of_block h.k) (fun e => by injection e; omega)).trans h.k, (hg.block _ (lt_of_block h.r) (fun e => by injection e; omega)).trans h.r⟩
theorem Sr.below (h : Sr w B O w1) (hb : Below w1.heap.size w1 w2) : Sr w B O w2 :=
  ⟨grown_trans h.g (grown_below hb _), (hb.block _ (lt_of_block h.k)).trans h.k, (hb.block _ (lt_of_block h.r)).trans h.r⟩
theorem Sr.drew (h : Sr w B O w1) : Sr w B O w1.drew := h.below (Below.refl _ _).drew
theorem Sr.set (h : Sr w B O w1) {X : Nat} (k : Nat) (u : Value) (hX : w.heap.size + 2 ≤ X) : Sr w B O (w1.setCell ⟨X, k, none⟩ u) := by
  have hne : ∀ g, g ≠ X → (w1.setCell ⟨X, k, none⟩ u).heap[g]? = w1.heap[g]? := fun g hg => Below.heap_setCell _ ⟨X, k, none⟩ _ g hg
  exact ⟨⟨h.g.os, h.g.tape, h.g.output, by rw [Q.setCell_size]; exact h.g.size, fun i hi hn => (hne i (by omega)).trans (h.g.block i hi hn)⟩, (hne _ (by omega)).trans h.k, (hne _ (by omega)).trans h.r⟩
theorem gset (h : w.grownBy w1 (some B)) {X : Nat} (k : Nat) (u : Value) (hX : w.heap.size ≤ X) : w.grownBy (w1.setCell ⟨X, k, none⟩ u) (some B) := by
  have hne : ∀ g, g ≠ X → (w1.setCell ⟨X, k, none⟩ u).heap[g]? = w1.heap[g]? := fun g hg => Below.heap_setCell _ ⟨X, k, none⟩ _ g hg
  exact ⟨h.os, h.tape, h.output, by rw [Q.setCell_size]; exact h.size, fun i hi hn => (hne i (by omega)).trans (h.block i hi hn)⟩
theorem Sr.set8 (h : Sr w B O w1) {X : Nat} (F : Rr) (hX : w.heap.size + 2 ≤ X) : Sr w B O (Q.set8 w1 X F) :=
  (((((((h.set 0 _ hX).set 1 _ hX).set 2 _ hX).set 3 _ hX).set 4 _ hX).set 5 _ hX).set 6 _ hX).set 7 _ hX
end
theorem bx_two {w : World} {X : Nat} {F F' : Rr} (h : Q.Bx w X F) (a : Nat) (u : Value) (b : Nat) (v : Value) (he : (#[.int .i64 F.job, .int .i64 F.st, .int .i64 F.att, .int .i64 F.bdg, .int .i64 F.node, .int .i64 F.life, .int .i64 F.code, .int .u64 F.bits].setIfInBounds a u).setIfInBounds b v = #[.int .i64 F'.job, .int .i64 F'.st, .int .i64 F'.att, .int .i64 F'.bdg, .int .i64 F'.node, .int .i64 F'.life, .int .i64 F'.code, .int .u64 F'.bits]) : Q.Bx ((w.setCell ⟨X, a, none⟩ u).setCell ⟨X, b, none⟩ v) X F' := by
  have h1 := cells_set (k := a) (u := u) (show w.heap[X]? = some (.cells #[.int .i64 F.job, .int .i64 F.st, .int .i64 F.att, .int .i64 F.bdg, .int .i64 F.node, .int .i64 F.life, .int .i64 F.code, .int .u64 F.bits] 82 (0, 0)) from h)
  have h2 := cells_set (k := b) (u := v) h1
  rw [he] at h2
  exact h2
theorem results_rw {fn : Func} {p : Tmp} (h : fn.results = #[.cell p 82]) (tmps : Array Value) (w : World) (g : Nat) (cs : Array Value) (hp : tmps.getD p undef = .pointer (some ⟨g, 0, none⟩)) (hg : w.heap[g]? = some (.cells cs 82 (0, 0))) (hc : cs.size = 8) :
    (results fn tmps).run Tryz.prog w = .ok (.agg cs) w := by
  have he := run_loadVar_row (P := Tryz.prog) w g 82 82 cs (0, 0) _ hg Tryz.underlying82 rfl (by rw [hc]; kernel_rfl)
  rw [results_c0 h, hp]
  simp [asAddr, he]
set_option maxHeartbeats 2000000 in
set_option maxRecDepth 20000 in
theorem rx_row {w : World} {B : Nat} {b : ByteArray} {more : List UInt8} {j : Int} {a1 a2 a3 a4 a5 a6 a7 : Nat} (hb : b.size ≤ 140737488351232) (h : Rx B b (encs [a1, a2, a3, a4, a5, a6] ++ (Pk.big8 a7 ++ more)) w)
    (h1 : a1 ≤ 1099511627776 ∧ a2 ≤ 1099511627776 ∧ a3 ≤ 1099511627776 ∧ a4 ≤ 1099511627776 ∧ a5 ≤ 1099511627776 ∧ a6 ≤ 1099511627776) (h7 : a7 < 18446744073709551616) :
    Calls Tryz.prog 84 #[.agg #[.pointer (some ⟨B, 0, none⟩)], .int .i64 j] w fun e w' => e = .returned (Rr.val ⟨j, a1, a2, a3, a4, a5, a6, a7⟩) ∧ Rx B b more w' ∧ w.grownBy w' (some B) := by
  obtain ⟨g1, g2, g3, g4, g5, g6⟩ := h1
  simp only [encs, List.flatMap_cons, List.flatMap_nil, List.append_nil, List.append_assoc] at h
  have HN1 : Hid (∀ V, Rx B b (Pk.enc a1 ++ (Pk.enc a2 ++ (Pk.enc a3 ++ (Pk.enc a4 ++ (Pk.enc a5 ++ (Pk.enc a6 ++ (Pk.big8 a7 ++ more))))))) V → Calls Tryz.prog 51 #[.agg #[.pointer (some ⟨B, 0, none⟩)]] V fun e w' => e = .returned (.int .i64 (a1 : Int)) ∧ Rx B b (Pk.enc a2 ++ (Pk.enc a3 ++ (Pk.enc a4 ++ (Pk.enc a5 ++ (Pk.enc a6 ++ (Pk.big8 a7 ++ more)))))) w' ∧ V.grownBy w' (some B)) := hide fun V hV => rx_num hb hV g1
  have HN2 : Hid (∀ V, Rx B b (Pk.enc a2 ++ (Pk.enc a3 ++ (Pk.enc a4 ++ (Pk.enc a5 ++ (Pk.enc a6 ++ (Pk.big8 a7 ++ more)))))) V → Calls Tryz.prog 51 #[.agg #[.pointer (some ⟨B, 0, none⟩)]] V fun e w' => e = .returned (.int .i64 (a2 : Int)) ∧ Rx B b (Pk.enc a3 ++ (Pk.enc a4 ++ (Pk.enc a5 ++ (Pk.enc a6 ++ (Pk.big8 a7 ++ more))))) w' ∧ V.grownBy w' (some B)) := hide fun V hV => rx_num hb hV g2
  have HN3 : Hid (∀ V, Rx B b (Pk.enc a3 ++ (Pk.enc a4 ++ (Pk.enc a5 ++ (Pk.enc a6 ++ (Pk.big8 a7 ++ more))))) V → Calls Tryz.prog 51 #[.agg #[.pointer (some ⟨B, 0, none⟩)]] V fun e w' => e = .returned (.int .i64 (a3 : Int)) ∧ Rx B b (Pk.enc a4 ++ (Pk.enc a5 ++ (Pk.enc a6 ++ (Pk.big8 a7 ++ more)))) w' ∧ V.grownBy w' (some B)) := hide fun V hV => rx_num hb hV g3
  have HN4 : Hid (∀ V, Rx B b (Pk.enc a4 ++ (Pk.enc a5 ++ (Pk.enc a6 ++ (Pk.big8 a7 ++ more)))) V → Calls Tryz.prog 51 #[.agg #[.pointer (some ⟨B, 0, none⟩)]] V fun e w' => e = .returned (.int .i64 (a4 : Int)) ∧ Rx B b (Pk.enc a5 ++ (Pk.enc a6 ++ (Pk.big8 a7 ++ more))) w' ∧ V.grownBy w' (some B)) := hide fun V hV => rx_num hb hV g4
  have HN5 : Hid (∀ V, Rx B b (Pk.enc a5 ++ (Pk.enc a6 ++ (Pk.big8 a7 ++ more))) V → Calls Tryz.prog 51 #[.agg #[.pointer (some ⟨B, 0, none⟩)]] V fun e w' => e = .returned (.int .i64 (a5 : Int)) ∧ Rx B b (Pk.enc a6 ++ (Pk.big8 a7 ++ more)) w' ∧ V.grownBy w' (some B)) := hide fun V hV => rx_num hb hV g5
  have HN6 : Hid (∀ V, Rx B b (Pk.enc a6 ++ (Pk.big8 a7 ++ more)) V → Calls Tryz.prog 51 #[.agg #[.pointer (some ⟨B, 0, none⟩)]] V fun e w' => e = .returned (.int .i64 (a6 : Int)) ∧ Rx B b (Pk.big8 a7 ++ more) w' ∧ V.grownBy w' (some B)) := hide fun V hV => rx_num hb hV g6
  have HN7 : Hid (∀ V, Rx B b (Pk.big8 a7 ++ more) V → Calls Tryz.prog 120 #[.pointer (some ⟨B, 0, none⟩)] V fun e w' => e = .returned (.int .u64 (a7 : Int)) ∧ Rx B b more w' ∧ V.grownBy w' (some B)) := hide fun V hV => rx_bits hb hV h7
  have HBl := hide h.lt
  have hs0 := World.size_alloc w (.cells #[.pointer (some ⟨B, 0, none⟩)] 120)
  have hn0 := heap_alloc_new w (.cells #[.pointer (some ⟨B, 0, none⟩)] 120)
  have hb1 := below_alloc (w.alloc (.cells #[.pointer (some ⟨B, 0, none⟩)] 120)) (.cells #[.int .i64 0, .int .i64 0, .int .i64 0, .int .i64 0, .int .i64 0, .int .i64 0, .int .i64 0, .int .u64 0] 82)
  have hn1 := heap_alloc_new (w.alloc (.cells #[.pointer (some ⟨B, 0, none⟩)] 120)) (.cells #[.int .i64 0, .int .i64 0, .int .i64 0, .int .i64 0, .int .i64 0, .int .i64 0, .int .i64 0, .int .u64 0] 82)
  rw [hs0] at hn1
  have hBB : Below w.heap.size w ((w.alloc (.cells #[.pointer (some ⟨B, 0, none⟩)] 120)).alloc (.cells #[.int .i64 0, .int .i64 0, .int .i64 0, .int .i64 0, .int .i64 0, .int .i64 0, .int .i64 0, .int .u64 0] 82)) := ((Below.refl _ w).alloc (Nat.le_refl _) _).alloc (by omega) _
  have HS0 : Hid (Sr w B (.cells #[.int .i64 0, .int .i64 0, .int .i64 0, .int .i64 0, .int .i64 0, .int .i64 0, .int .i64 0, .int .u64 0] 82) ((w.alloc (.cells #[.pointer (some ⟨B, 0, none⟩)] 120)).alloc (.cells #[.int .i64 0, .int .i64 0, .int .i64 0, .int .i64 0, .int .i64 0, .int .i64 0, .int .i64 0, .int .u64 0] 82)).drew) := hide (Sr.drew ⟨grown_below hBB _, (hb1.block _ (by omega)).trans hn0, hn1⟩)
  have HR0 : Hid (Rx B b _ ((w.alloc (.cells #[.pointer (some ⟨B, 0, none⟩)] 120)).alloc (.cells #[.int .i64 0, .int .i64 0, .int .i64 0, .int .i64 0, .int .i64 0, .int .i64 0, .int .i64 0, .int .u64 0] 82)).drew) := hide (h.below hBB).drew
  have HCe : Hid (∀ w' : World, (fun w' => Sr w B (.cells #[.int .i64 0, .int .i64 0, .int .i64 0, .int .i64 0, .int .i64 0, .int .i64 0, .int .i64 0, .int .u64 0] 82) w') w' → w'.cell? ⟨w.heap.size, 0, none⟩ = some (.pointer (some ⟨B, 0, none⟩))) := hide fun w' hw => by simp [World.cell?, hw.k]
  clear h hs0 hn0 hb1 hn1 hBB g1 g2 g3 g4 g5 g6 hb h7
  go_enter Tryz.func84, Tryz.ntmps84
  go_upto_region 1 with fail
  generalize (w.alloc _).alloc _ = W at *
  go_cut [5] (fun p wc => ∃ X, p = .pointer (some ⟨X, 0, none⟩) ∧ Hid (Q.Bx wc X ⟨j, a1, a2, a3, 0, 0, 0, 0⟩) ∧ Hid (Rx B b (Pk.enc a4 ++ (Pk.enc a5 ++ (Pk.enc a6 ++ (Pk.big8 a7 ++ more)))) wc) ∧ Hid (Sr w B (.cells #[.int .i64 0, .int .i64 0, .int .i64 0, .int .i64 0, .int .i64 0, .int .i64 0, .int .i64 0, .int .u64 0] 82) wc) ∧ Hid (w.heap.size + 2 ≤ X))
  case first =>
    refine wp_region_held_drew (S := fun w' => Sr w B (.cells #[.int .i64 0, .int .i64 0, .int .i64 0, .int .i64 0, .int .i64 0, .int .i64 0, .int .i64 0, .int .u64 0] 82) w') (by kernel_rfl) (HS0.out) (fun hHeld => ?_)
    refine wpAnyH_take (i := 0) (v := .int .i64 j) rfl (by kernel_rfl) (by kernel_rfl) (by kernel_rfl) (fun _ _ _ h => h) (Or.inl ⟨by kernel_rfl, fun w1 hSw => by clear hHeld; have k0 := HCe.out _ hSw; go_simp⟩) hHeld ?_
    try simp only [Act.put]
    try simp only [List.getElem_toArray]
    try simp only [List.getElem_cons_succ]
    try simp only [List.getElem_cons_zero]
    try simp only [List.setIfInBounds_toArray]
    try simp only [List.set_cons_succ, List.set_cons_zero]
    refine wpAnyH_take (i := 1) (v := .agg #[.pointer (some ⟨B, 0, none⟩)]) rfl (by kernel_rfl) (by kernel_rfl) (by kernel_rfl) (fun _ _ _ h => h) (Or.inl ⟨by kernel_rfl, fun w1 hSw => by clear hHeld; have k0 := HCe.out _ hSw; go_simp⟩) hHeld ?_
    try simp only [Act.put]
    try simp only [List.getElem_toArray]
    try simp only [List.getElem_cons_succ]
    try simp only [List.getElem_cons_zero]
    try simp only [List.setIfInBounds_toArray]
    try simp only [List.set_cons_succ, List.set_cons_zero]
    refine wpAnyH_take (i := 3) (v := .agg #[.pointer (some ⟨B, 0, none⟩)]) rfl (by kernel_rfl) (by kernel_rfl) (by kernel_rfl) (fun _ _ _ h => h) (Or.inl ⟨by kernel_rfl, fun w1 hSw => by clear hHeld; have k0 := HCe.out _ hSw; go_simp⟩) hHeld ?_
    try simp only [Act.put]
    try simp only [List.getElem_toArray]
    try simp only [List.getElem_cons_succ]
    try simp only [List.getElem_cons_zero]
    try simp only [List.setIfInBounds_toArray]
    try simp only [List.set_cons_succ, List.set_cons_zero]
    refine wpAnyH_take (i := 5) (v := .agg #[.pointer (some ⟨B, 0, none⟩)]) rfl (by kernel_rfl) (by kernel_rfl) (by kernel_rfl) (fun _ _ _ h => h) (Or.inl ⟨by kernel_rfl, fun w1 hSw => by clear hHeld; have k0 := HCe.out _ hSw; go_simp⟩) hHeld ?_
    try simp only [Act.put]
    try simp only [List.getElem_toArray]
    try simp only [List.getElem_cons_succ]
    try simp only [List.getElem_cons_zero]
    try simp only [List.setIfInBounds_toArray]
    try simp only [List.set_cons_succ, List.set_cons_zero]
    refine wpAnyH_ready (rs := [2, 8]) (by kernel_rfl) (by simp) ?_
    refine AllReadyH.cons rfl (fun K hK => ?_) (AllReadyH.cons rfl (fun K hK => ?_) AllReadyH.nil)
    · go_simp
      refine (HN1.out _ HR0.out).mono ?_
      rintro e V1 ⟨rfl, hx, hg⟩
      have HR1 := hide hx
      have HS1 := hide (hHeld.call hg HBl.out)
      clear hx hg HR0
      refine hK.out _ _ (HS1.out) (fun hHeld => ?_)
      clear hK K
      try simp only [Act.put]
      try simp only [List.getElem_toArray]
      try simp only [List.getElem_cons_succ]
      try simp only [List.getElem_cons_zero]
      try simp only [List.setIfInBounds_toArray]
      try simp only [List.set_cons_succ, List.set_cons_zero]
      refine wpAnyH_ready (rs := [4, 8]) (by kernel_rfl) (by simp) ?_
      refine AllReadyH.cons rfl (fun K hK => ?_) (AllReadyH.cons rfl (fun K hK => ?_) AllReadyH.nil)
      · go_simp
        refine (HN2.out _ HR1.out).mono ?_
        rintro e V2 ⟨rfl, hx, hg⟩
        have HR2 := hide hx
        have HS2 := hide (hHeld.call hg HBl.out)
        clear hx hg HR1
        refine hK.out _ _ (HS2.out) (fun hHeld => ?_)
        clear hK K
        try simp only [Act.put]
        try simp only [List.getElem_toArray]
        try simp only [List.getElem_cons_succ]
        try simp only [List.getElem_cons_zero]
        try simp only [List.setIfInBounds_toArray]
        try simp only [List.set_cons_succ, List.set_cons_zero]
        refine wpAnyH_ready (rs := [6, 8]) (by kernel_rfl) (by simp) ?_
        refine AllReadyH.cons rfl (fun K hK => ?_) (AllReadyH.cons rfl (fun K hK => ?_) AllReadyH.nil)
        · go_simp
          refine (HN3.out _ HR2.out).mono ?_
          rintro e V3 ⟨rfl, hx, hg⟩
          have HR3 := hide hx
          have HS3 := hide (hHeld.call hg HBl.out)
          clear hx hg HR2
          refine hK.out _ _ (HS3.out) (fun hHeld => ?_)
          clear hK K
          try simp only [Act.put]
          try simp only [List.getElem_toArray]
          try simp only [List.getElem_cons_succ]
          try simp only [List.getElem_cons_zero]
          try simp only [List.setIfInBounds_toArray]
          try simp only [List.set_cons_succ, List.set_cons_zero]
          refine wpAnyH_take (i := 7) (v := .agg #[.int .i64 j, .int .i64 (a1 : Int), .int .i64 (a2 : Int), .int .i64 (a3 : Int), .int .i64 0, .int .i64 0, .int .i64 0, .int .u64 0]) rfl (by kernel_rfl) (by kernel_rfl) (by kernel_rfl) (fun _ _ _ h => h) (Or.inl ⟨by kernel_rfl, fun w1 hSw => by clear hHeld; have k0 := HCe.out _ hSw; go_simp⟩) hHeld ?_
          try simp only [Act.put]
          try simp only [List.getElem_toArray]
          try simp only [List.getElem_cons_succ]
          try simp only [List.getElem_cons_zero]
          try simp only [List.setIfInBounds_toArray]
          try simp only [List.set_cons_succ, List.set_cons_zero]
          refine wpAnyH_ready (rs := [8]) (by kernel_rfl) (by simp) ?_
          refine AllReadyH.cons rfl (fun K hK => ?_) AllReadyH.nil
          go_simp
          have HS4 := hide (hHeld.below (below_alloc V3 (.cells #[.int .i64 0, .int .i64 0, .int .i64 0, .int .i64 0, .int .i64 0, .int .i64 0, .int .i64 0, .int .u64 0] 82)))
          have HR4 := hide (HR3.out.below (below_alloc V3 (.cells #[.int .i64 0, .int .i64 0, .int .i64 0, .int .i64 0, .int .i64 0, .int .i64 0, .int .i64 0, .int .u64 0] 82)))
          have HXs : Hid (w.heap.size + 2 ≤ V3.heap.size) := hide (by have := hHeld.sz; exact this)
          have HX4 : Hid (Q.Bx (V3.alloc (.cells #[.int .i64 0, .int .i64 0, .int .i64 0, .int .i64 0, .int .i64 0, .int .i64 0, .int .i64 0, .int .u64 0] 82)) V3.heap.size rr0) := hide (heap_alloc_new _ _)
          clear HR3
          generalize hXX : V3.heap.size = XX at *
          clear hXX
          refine hK.out _ _ (HS4.out) (fun hHeld => ?_)
          clear hK K
          try simp only [Act.put]
          try simp only [List.getElem_toArray]
          try simp only [List.getElem_cons_succ]
          try simp only [List.getElem_cons_zero]
          try simp only [List.setIfInBounds_toArray]
          try simp only [List.set_cons_succ, List.set_cons_zero]
          refine wpAnyH_ready (rs := [9]) (by kernel_rfl) (by simp) ?_
          refine AllReadyH.cons rfl (fun K hK => ?_) AllReadyH.nil
          try generalize World.alloc _ _ = VA at *
          obtain ⟨d0, d1, d2, d3, d4, d5, d6, d7⟩ := HX4.out.cells
          have z0 := HX4.out.z 0
          have z1 := HX4.out.z 1
          have z2 := HX4.out.z 2
          have z3 := HX4.out.z 3
          have z4 := HX4.out.z 4
          have z5 := HX4.out.z 5
          have z6 := HX4.out.z 6
          have z7 := HX4.out.z 7
          have hXl := HX4.out.lt
          have HXF := hide (HX4.out.put ⟨j, a1, a2, a3, 0, 0, 0, 0⟩)
          have HSF := hide (HS4.out.set8 ⟨j, a1, a2, a3, 0, 0, 0, 0⟩ HXs.out)
          have HRF := hide (HR4.out.set8 (X := XX) ⟨j, a1, a2, a3, 0, 0, 0, 0⟩ (by have := HXs.out; have := HBl.out; omega))
          go_simp
          refine hK.out _ _ (HSF.out) (fun hHeld => ?_)
          clear hK K
          try simp only [Act.put]
          try simp only [List.getElem_toArray]
          try simp only [List.getElem_cons_succ]
          try simp only [List.getElem_cons_zero]
          try simp only [List.setIfInBounds_toArray]
          try simp only [List.set_cons_succ, List.set_cons_zero]
          refine wpAnyH_done (by kernel_rfl) ?_ _
          go_wp2_with fail
          go_meet
          case rel => exact ⟨_, rfl, HXF, HRF, HSF, HXs⟩
        · go_simp
          have HS3 := hide (hHeld.below (below_alloc V2 (.cells #[.int .i64 0, .int .i64 0, .int .i64 0, .int .i64 0, .int .i64 0, .int .i64 0, .int .i64 0, .int .u64 0] 82)))
          have HR3 := hide (HR2.out.below (below_alloc V2 (.cells #[.int .i64 0, .int .i64 0, .int .i64 0, .int .i64 0, .int .i64 0, .int .i64 0, .int .i64 0, .int .u64 0] 82)))
          have HXs : Hid (w.heap.size + 2 ≤ V2.heap.size) := hide (by have := hHeld.sz; exact this)
          have HX3 : Hid (Q.Bx (V2.alloc (.cells #[.int .i64 0, .int .i64 0, .int .i64 0, .int .i64 0, .int .i64 0, .int .i64 0, .int .i64 0, .int .u64 0] 82)) V2.heap.size rr0) := hide (heap_alloc_new _ _)
          clear HR2
          generalize hXX : V2.heap.size = XX at *
          clear hXX
          refine hK.out _ _ (HS3.out) (fun hHeld => ?_)
          clear hK K
          try simp only [Act.put]
          try simp only [List.getElem_toArray]
          try simp only [List.getElem_cons_succ]
          try simp only [List.getElem_cons_zero]
          try simp only [List.setIfInBounds_toArray]
          try simp only [List.set_cons_succ, List.set_cons_zero]
          refine wpAnyH_ready (rs := [6]) (by kernel_rfl) (by simp) ?_
          refine AllReadyH.cons rfl (fun K hK => ?_) AllReadyH.nil
          go_simp
          refine (HN3.out _ HR3.out).mono ?_
          rintro e V4 ⟨rfl, hx, hg⟩
          have HR4 := hide hx
          have HS4 := hide (hHeld.call hg HBl.out)
          have HX4 : Hid (Q.Bx V4 XX rr0) := hide ((hg.block _ HX3.out.lt (fun e => by have := HXs.out; have := HBl.out; injection e; omega)).trans HX3.out)
          clear hx hg HR3
          clear HX3
          refine hK.out _ _ (HS4.out) (fun hHeld => ?_)
          clear hK K
          try simp only [Act.put]
          try simp only [List.getElem_toArray]
          try simp only [List.getElem_cons_succ]
          try simp only [List.getElem_cons_zero]
          try simp only [List.setIfInBounds_toArray]
          try simp only [List.set_cons_succ, List.set_cons_zero]
          refine wpAnyH_take (i := 7) (v := .agg #[.int .i64 j, .int .i64 (a1 : Int), .int .i64 (a2 : Int), .int .i64 (a3 : Int), .int .i64 0, .int .i64 0, .int .i64 0, .int .u64 0]) rfl (by kernel_rfl) (by kernel_rfl) (by kernel_rfl) (fun _ _ _ h => h) (Or.inl ⟨by kernel_rfl, fun w1 hSw => by clear hHeld; have k0 := HCe.out _ hSw; go_simp⟩) hHeld ?_
          try simp only [Act.put]
          try simp only [List.getElem_toArray]
          try simp only [List.getElem_cons_succ]
          try simp only [List.getElem_cons_zero]
          try simp only [List.setIfInBounds_toArray]
          try simp only [List.set_cons_succ, List.set_cons_zero]
          refine wpAnyH_ready (rs := [9]) (by kernel_rfl) (by simp) ?_
          refine AllReadyH.cons rfl (fun K hK => ?_) AllReadyH.nil
          try generalize World.alloc _ _ = VA at *
          obtain ⟨d0, d1, d2, d3, d4, d5, d6, d7⟩ := HX4.out.cells
          have z0 := HX4.out.z 0
          have z1 := HX4.out.z 1
          have z2 := HX4.out.z 2
          have z3 := HX4.out.z 3
          have z4 := HX4.out.z 4
          have z5 := HX4.out.z 5
          have z6 := HX4.out.z 6
          have z7 := HX4.out.z 7
          have hXl := HX4.out.lt
          have HXF := hide (HX4.out.put ⟨j, a1, a2, a3, 0, 0, 0, 0⟩)
          have HSF := hide (HS4.out.set8 ⟨j, a1, a2, a3, 0, 0, 0, 0⟩ HXs.out)
          have HRF := hide (HR4.out.set8 (X := XX) ⟨j, a1, a2, a3, 0, 0, 0, 0⟩ (by have := HXs.out; have := HBl.out; omega))
          go_simp
          refine hK.out _ _ (HSF.out) (fun hHeld => ?_)
          clear hK K
          try simp only [Act.put]
          try simp only [List.getElem_toArray]
          try simp only [List.getElem_cons_succ]
          try simp only [List.getElem_cons_zero]
          try simp only [List.setIfInBounds_toArray]
          try simp only [List.set_cons_succ, List.set_cons_zero]
          refine wpAnyH_done (by kernel_rfl) ?_ _
          go_wp2_with fail
          go_meet
          case rel => exact ⟨_, rfl, HXF, HRF, HSF, HXs⟩
      · go_simp
        have HS2 := hide (hHeld.below (below_alloc V1 (.cells #[.int .i64 0, .int .i64 0, .int .i64 0, .int .i64 0, .int .i64 0, .int .i64 0, .int .i64 0, .int .u64 0] 82)))
        have HR2 := hide (HR1.out.below (below_alloc V1 (.cells #[.int .i64 0, .int .i64 0, .int .i64 0, .int .i64 0, .int .i64 0, .int .i64 0, .int .i64 0, .int .u64 0] 82)))
        have HXs : Hid (w.heap.size + 2 ≤ V1.heap.size) := hide (by have := hHeld.sz; exact this)
        have HX2 : Hid (Q.Bx (V1.alloc (.cells #[.int .i64 0, .int .i64 0, .int .i64 0, .int .i64 0, .int .i64 0, .int .i64 0, .int .i64 0, .int .u64 0] 82)) V1.heap.size rr0) := hide (heap_alloc_new _ _)
        clear HR1
        generalize hXX : V1.heap.size = XX at *
        clear hXX
        refine hK.out _ _ (HS2.out) (fun hHeld => ?_)
        clear hK K
        try simp only [Act.put]
        try simp only [List.getElem_toArray]
        try simp only [List.getElem_cons_succ]
        try simp only [List.getElem_cons_zero]
        try simp only [List.setIfInBounds_toArray]
        try simp only [List.set_cons_succ, List.set_cons_zero]
        refine wpAnyH_ready (rs := [4]) (by kernel_rfl) (by simp) ?_
        refine AllReadyH.cons rfl (fun K hK => ?_) AllReadyH.nil
        go_simp
        refine (HN2.out _ HR2.out).mono ?_
        rintro e V3 ⟨rfl, hx, hg⟩
        have HR3 := hide hx
        have HS3 := hide (hHeld.call hg HBl.out)
        have HX3 : Hid (Q.Bx V3 XX rr0) := hide ((hg.block _ HX2.out.lt (fun e => by have := HXs.out; have := HBl.out; injection e; omega)).trans HX2.out)
        clear hx hg HR2
        clear HX2
        refine hK.out _ _ (HS3.out) (fun hHeld => ?_)
        clear hK K
        try simp only [Act.put]
        try simp only [List.getElem_toArray]
        try simp only [List.getElem_cons_succ]
        try simp only [List.getElem_cons_zero]
        try simp only [List.setIfInBounds_toArray]
        try simp only [List.set_cons_succ, List.set_cons_zero]
        refine wpAnyH_ready (rs := [6]) (by kernel_rfl) (by simp) ?_
        refine AllReadyH.cons rfl (fun K hK => ?_) AllReadyH.nil
        go_simp
        refine (HN3.out _ HR3.out).mono ?_
        rintro e V4 ⟨rfl, hx, hg⟩
        have HR4 := hide hx
        have HS4 := hide (hHeld.call hg HBl.out)
        have HX4 : Hid (Q.Bx V4 XX rr0) := hide ((hg.block _ HX3.out.lt (fun e => by have := HXs.out; have := HBl.out; injection e; omega)).trans HX3.out)
        clear hx hg HR3
        clear HX3
        refine hK.out _ _ (HS4.out) (fun hHeld => ?_)
        clear hK K
        try simp only [Act.put]
        try simp only [List.getElem_toArray]
        try simp only [List.getElem_cons_succ]
        try simp only [List.getElem_cons_zero]
        try simp only [List.setIfInBounds_toArray]
        try simp only [List.set_cons_succ, List.set_cons_zero]
        refine wpAnyH_take (i := 7) (v := .agg #[.int .i64 j, .int .i64 (a1 : Int), .int .i64 (a2 : Int), .int .i64 (a3 : Int), .int .i64 0, .int .i64 0, .int .i64 0, .int .u64 0]) rfl (by kernel_rfl) (by kernel_rfl) (by kernel_rfl) (fun _ _ _ h => h) (Or.inl ⟨by kernel_rfl, fun w1 hSw => by clear hHeld; have k0 := HCe.out _ hSw; go_simp⟩) hHeld ?_
        try simp only [Act.put]
        try simp only [List.getElem_toArray]
        try simp only [List.getElem_cons_succ]
        try simp only [List.getElem_cons_zero]
        try simp only [List.setIfInBounds_toArray]
        try simp only [List.set_cons_succ, List.set_cons_zero]
        refine wpAnyH_ready (rs := [9]) (by kernel_rfl) (by simp) ?_
        refine AllReadyH.cons rfl (fun K hK => ?_) AllReadyH.nil
        try generalize World.alloc _ _ = VA at *
        obtain ⟨d0, d1, d2, d3, d4, d5, d6, d7⟩ := HX4.out.cells
        have z0 := HX4.out.z 0
        have z1 := HX4.out.z 1
        have z2 := HX4.out.z 2
        have z3 := HX4.out.z 3
        have z4 := HX4.out.z 4
        have z5 := HX4.out.z 5
        have z6 := HX4.out.z 6
        have z7 := HX4.out.z 7
        have hXl := HX4.out.lt
        have HXF := hide (HX4.out.put ⟨j, a1, a2, a3, 0, 0, 0, 0⟩)
        have HSF := hide (HS4.out.set8 ⟨j, a1, a2, a3, 0, 0, 0, 0⟩ HXs.out)
        have HRF := hide (HR4.out.set8 (X := XX) ⟨j, a1, a2, a3, 0, 0, 0, 0⟩ (by have := HXs.out; have := HBl.out; omega))
        go_simp
        refine hK.out _ _ (HSF.out) (fun hHeld => ?_)
        clear hK K
        try simp only [Act.put]
        try simp only [List.getElem_toArray]
        try simp only [List.getElem_cons_succ]
        try simp only [List.getElem_cons_zero]
        try simp only [List.setIfInBounds_toArray]
        try simp only [List.set_cons_succ, List.set_cons_zero]
        refine wpAnyH_done (by kernel_rfl) ?_ _
        go_wp2_with fail
        go_meet
        case rel => exact ⟨_, rfl, HXF, HRF, HSF, HXs⟩
    · go_simp
      have HS1 := hide (hHeld.below (below_alloc W.drew (.cells #[.int .i64 0, .int .i64 0, .int .i64 0, .int .i64 0, .int .i64 0, .int .i64 0, .int .i64 0, .int .u64 0] 82)))
      have HR1 := hide (HR0.out.below (below_alloc W.drew (.cells #[.int .i64 0, .int .i64 0, .int .i64 0, .int .i64 0, .int .i64 0, .int .i64 0, .int .i64 0, .int .u64 0] 82)))
      have HXs : Hid (w.heap.size + 2 ≤ W.heap.size) := hide (by have := hHeld.sz; exact this)
      have HX1 : Hid (Q.Bx (W.drew.alloc (.cells #[.int .i64 0, .int .i64 0, .int .i64 0, .int .i64 0, .int .i64 0, .int .i64 0, .int .i64 0, .int .u64 0] 82)) W.heap.size rr0) := hide (heap_alloc_new _ _)
      clear HR0
      generalize hXX : W.heap.size = XX at *
      refine hK.out _ _ (HS1.out) (fun hHeld => ?_)
      clear hK K
      try simp only [Act.put]
      try simp only [List.getElem_toArray]
      try simp only [List.getElem_cons_succ]
      try simp only [List.getElem_cons_zero]
      try simp only [List.setIfInBounds_toArray]
      try simp only [List.set_cons_succ, List.set_cons_zero]
      refine wpAnyH_ready (rs := [2]) (by kernel_rfl) (by simp) ?_
      refine AllReadyH.cons rfl (fun K hK => ?_) AllReadyH.nil
      go_simp
      refine (HN1.out _ HR1.out).mono ?_
      rintro e V2 ⟨rfl, hx, hg⟩
      have HR2 := hide hx
      have HS2 := hide (hHeld.call hg HBl.out)
      have HX2 : Hid (Q.Bx V2 XX rr0) := hide ((hg.block _ HX1.out.lt (fun e => by have := HXs.out; have := HBl.out; injection e; omega)).trans HX1.out)
      clear hx hg HR1
      clear HX1
      refine hK.out _ _ (HS2.out) (fun hHeld => ?_)
      clear hK K
      try simp only [Act.put]
      try simp only [List.getElem_toArray]
      try simp only [List.getElem_cons_succ]
      try simp only [List.getElem_cons_zero]
      try simp only [List.setIfInBounds_toArray]
      try simp only [List.set_cons_succ, List.set_cons_zero]
      refine wpAnyH_ready (rs := [4]) (by kernel_rfl) (by simp) ?_
      refine AllReadyH.cons rfl (fun K hK => ?_) AllReadyH.nil
      go_simp
      refine (HN2.out _ HR2.out).mono ?_
      rintro e V3 ⟨rfl, hx, hg⟩
      have HR3 := hide hx
      have HS3 := hide (hHeld.call hg HBl.out)
      have HX3 : Hid (Q.Bx V3 XX rr0) := hide ((hg.block _ HX2.out.lt (fun e => by have := HXs.out; have := HBl.out; injection e; omega)).trans HX2.out)
      clear hx hg HR2
      clear HX2
      refine hK.out _ _ (HS3.out) (fun hHeld => ?_)
      clear hK K
      try simp only [Act.put]
      try simp only [List.getElem_toArray]
      try simp only [List.getElem_cons_succ]
      try simp only [List.getElem_cons_zero]
      try simp only [List.setIfInBounds_toArray]
      try simp only [List.set_cons_succ, List.set_cons_zero]
      refine wpAnyH_ready (rs := [6]) (by kernel_rfl) (by simp) ?_
      refine AllReadyH.cons rfl (fun K hK => ?_) AllReadyH.nil
      go_simp
      refine (HN3.out _ HR3.out).mono ?_
      rintro e V4 ⟨rfl, hx, hg⟩
      have HR4 := hide hx
      have HS4 := hide (hHeld.call hg HBl.out)
      have HX4 : Hid (Q.Bx V4 XX rr0) := hide ((hg.block _ HX3.out.lt (fun e => by have := HXs.out; have := HBl.out; injection e; omega)).trans HX3.out)
      clear hx hg HR3
      clear HX3
      refine hK.out _ _ (HS4.out) (fun hHeld => ?_)
      clear hK K
      try simp only [Act.put]
      try simp only [List.getElem_toArray]
      try simp only [List.getElem_cons_succ]
      try simp only [List.getElem_cons_zero]
      try simp only [List.setIfInBounds_toArray]
      try simp only [List.set_cons_succ, List.set_cons_zero]
      refine wpAnyH_take (i := 7) (v := .agg #[.int .i64 j, .int .i64 (a1 : Int), .int .i64 (a2 : Int), .int .i64 (a3 : Int), .int .i64 0, .int .i64 0, .int .i64 0, .int .u64 0]) rfl (by kernel_rfl) (by kernel_rfl) (by kernel_rfl) (fun _ _ _ h => h) (Or.inl ⟨by kernel_rfl, fun w1 hSw => by clear hHeld; have k0 := HCe.out _ hSw; go_simp⟩) hHeld ?_
      try simp only [Act.put]
      try simp only [List.getElem_toArray]
      try simp only [List.getElem_cons_succ]
      try simp only [List.getElem_cons_zero]
      try simp only [List.setIfInBounds_toArray]
      try simp only [List.set_cons_succ, List.set_cons_zero]
      refine wpAnyH_ready (rs := [9]) (by kernel_rfl) (by simp) ?_
      refine AllReadyH.cons rfl (fun K hK => ?_) AllReadyH.nil
      try generalize World.alloc _ _ = VA at *
      obtain ⟨d0, d1, d2, d3, d4, d5, d6, d7⟩ := HX4.out.cells
      have z0 := HX4.out.z 0
      have z1 := HX4.out.z 1
      have z2 := HX4.out.z 2
      have z3 := HX4.out.z 3
      have z4 := HX4.out.z 4
      have z5 := HX4.out.z 5
      have z6 := HX4.out.z 6
      have z7 := HX4.out.z 7
      have hXl := HX4.out.lt
      have HXF := hide (HX4.out.put ⟨j, a1, a2, a3, 0, 0, 0, 0⟩)
      have HSF := hide (HS4.out.set8 ⟨j, a1, a2, a3, 0, 0, 0, 0⟩ HXs.out)
      have HRF := hide (HR4.out.set8 (X := XX) ⟨j, a1, a2, a3, 0, 0, 0, 0⟩ (by have := HXs.out; have := HBl.out; omega))
      go_simp
      refine hK.out _ _ (HSF.out) (fun hHeld => ?_)
      clear hK K
      try simp only [Act.put]
      try simp only [List.getElem_toArray]
      try simp only [List.getElem_cons_succ]
      try simp only [List.getElem_cons_zero]
      try simp only [List.setIfInBounds_toArray]
      try simp only [List.set_cons_succ, List.set_cons_zero]
      refine wpAnyH_done (by kernel_rfl) ?_ _
      go_wp2_with fail
      go_meet
      case rel => exact ⟨_, rfl, HXF, HRF, HSF, HXs⟩
  case rest =>
    obtain ⟨X, rfl, HX, HR, HS, HXs⟩ := hcut
    clear HS0 HR0
    go_upto_region 2 with fail
    refine wp_region_held_drew (S := fun w' => Sr w B (.cells #[.int .i64 0, .int .i64 0, .int .i64 0, .int .i64 0, .int .i64 0, .int .i64 0, .int .i64 0, .int .u64 0] 82) w') (by kernel_rfl) (HS.out.drew) (fun hHeld => ?_)
    refine wpAnyH_take (i := 0) (v := .agg #[.pointer (some ⟨B, 0, none⟩)]) rfl (by kernel_rfl) (by kernel_rfl) (by kernel_rfl) (fun _ _ _ h => h) (Or.inl ⟨by kernel_rfl, fun w1 hSw => by clear hHeld; have k0 := HCe.out _ hSw; go_simp⟩) hHeld ?_
    try simp only [Act.put]
    try simp only [List.getElem_toArray]
    try simp only [List.getElem_cons_succ]
    try simp only [List.getElem_cons_zero]
    try simp only [List.setIfInBounds_toArray]
    try simp only [List.set_cons_succ, List.set_cons_zero]
    refine wpAnyH_take (i := 2) (v := .agg #[.pointer (some ⟨B, 0, none⟩)]) rfl (by kernel_rfl) (by kernel_rfl) (by kernel_rfl) (fun _ _ _ h => h) (Or.inl ⟨by kernel_rfl, fun w1 hSw => by clear hHeld; have k0 := HCe.out _ hSw; go_simp⟩) hHeld ?_
    try simp only [Act.put]
    try simp only [List.getElem_toArray]
    try simp only [List.getElem_cons_succ]
    try simp only [List.getElem_cons_zero]
    try simp only [List.setIfInBounds_toArray]
    try simp only [List.set_cons_succ, List.set_cons_zero]
    refine wpAnyH_ready (rs := [1]) (by kernel_rfl) (by simp) ?_
    refine AllReadyH.cons rfl (fun K hK => ?_) AllReadyH.nil
    go_simp
    refine (HN4.out _ HR.out.drew).mono ?_
    rintro e U0 ⟨rfl, hx, hg⟩
    have HR1 := hide hx
    have HS1 := hide (hHeld.call hg HBl.out)
    have HX1 : Hid (Q.Bx U0 X ⟨j, a1, a2, a3, 0, 0, 0, 0⟩) := hide ((hg.block _ HX.out.lt (fun e => by have := HXs.out; have := HBl.out; injection e; omega)).trans HX.out)
    clear hx hg
    refine hK.out _ _ (HS1.out) (fun hHeld => ?_)
    clear hK K
    try simp only [Act.put]
    try simp only [List.getElem_toArray]
    try simp only [List.getElem_cons_succ]
    try simp only [List.getElem_cons_zero]
    try simp only [List.setIfInBounds_toArray]
    try simp only [List.set_cons_succ, List.set_cons_zero]
    refine wpAnyH_ready (rs := [3]) (by kernel_rfl) (by simp) ?_
    refine AllReadyH.cons rfl (fun K hK => ?_) AllReadyH.nil
    go_simp
    refine (HN5.out _ HR1.out).mono ?_
    rintro e U1 ⟨rfl, hx, hg⟩
    have HR2 := hide hx
    have HS2 := hide (hHeld.call hg HBl.out)
    have HX2 : Hid (Q.Bx U1 X ⟨j, a1, a2, a3, 0, 0, 0, 0⟩) := hide ((hg.block _ HX1.out.lt (fun e => by have := HXs.out; have := HBl.out; injection e; omega)).trans HX1.out)
    clear hx hg
    refine hK.out _ _ (HS2.out) (fun hHeld => ?_)
    clear hK K
    try simp only [Act.put]
    try simp only [List.getElem_toArray]
    try simp only [List.getElem_cons_succ]
    try simp only [List.getElem_cons_zero]
    try simp only [List.setIfInBounds_toArray]
    try simp only [List.set_cons_succ, List.set_cons_zero]
    refine wpAnyH_take (i := 4) (v := .agg #[.int .i64 (a4 : Int), .int .i64 (a5 : Int)]) rfl (by kernel_rfl) (by kernel_rfl) (by kernel_rfl) (fun _ _ _ h => h) (Or.inl ⟨by kernel_rfl, fun w1 hSw => by clear hHeld; have k0 := HCe.out _ hSw; go_simp⟩) hHeld ?_
    try simp only [Act.put]
    try simp only [List.getElem_toArray]
    try simp only [List.getElem_cons_succ]
    try simp only [List.getElem_cons_zero]
    try simp only [List.setIfInBounds_toArray]
    try simp only [List.set_cons_succ, List.set_cons_zero]
    refine wpAnyH_take (i := 5) (v := .pointer (some ⟨X, 4, none⟩)) rfl (by kernel_rfl) (by kernel_rfl) (by kernel_rfl) (fun _ _ _ h => h) (Or.inl ⟨by kernel_rfl, fun w1 hSw => by clear hHeld; have k0 := HCe.out _ hSw; go_simp⟩) hHeld ?_
    try simp only [Act.put]
    try simp only [List.getElem_toArray]
    try simp only [List.getElem_cons_succ]
    try simp only [List.getElem_cons_zero]
    try simp only [List.setIfInBounds_toArray]
    try simp only [List.set_cons_succ, List.set_cons_zero]
    refine wpAnyH_ready (rs := [6]) (by kernel_rfl) (by simp) ?_
    refine AllReadyH.cons rfl (fun K hK => ?_) AllReadyH.nil
    obtain ⟨d0, d1, d2, d3, d4, d5, d6, d7⟩ := HX2.out.cells
    have z0 := HX2.out.z 4
    have z1 := HX2.out.z 5
    have hXl := HX2.out.lt
    have HXF : Hid (Q.Bx ((U1.setCell ⟨X, 4, none⟩ (.int .i64 (a4 : Int))).setCell ⟨X, 5, none⟩ (.int .i64 (a5 : Int))) X ⟨j, a1, a2, a3, a4, a5, 0, 0⟩) := hide (bx_two HX2.out 4 (.int .i64 (a4 : Int)) 5 (.int .i64 (a5 : Int)) rfl)
    have HSF := hide ((HS2.out.set (X := X) 4 (.int .i64 (a4 : Int)) HXs.out).set (X := X) 5 (.int .i64 (a5 : Int)) HXs.out)
    have HRF := hide ((HR2.out.set (X := X) 4 (.int .i64 (a4 : Int)) (by have := HXs.out; have := HBl.out; omega)).set (X := X) 5 (.int .i64 (a5 : Int)) (by have := HXs.out; have := HBl.out; omega))
    go_simp
    refine hK.out _ _ (HSF.out) (fun hHeld => ?_)
    clear hK K
    try simp only [Act.put]
    try simp only [List.getElem_toArray]
    try simp only [List.getElem_cons_succ]
    try simp only [List.getElem_cons_zero]
    try simp only [List.setIfInBounds_toArray]
    try simp only [List.set_cons_succ, List.set_cons_zero]
    refine wpAnyH_done (by kernel_rfl) ?_ _
    clear HX1 HX2 HR1 HR2 HS1 HS2 HX HR HS hHeld
    have HX := HXF
    have HR := HRF
    have HS := HSF
    clear HXF HRF HSF
    generalize (U1.setCell _ _).setCell _ _ = W2 at *
    go_upto_region 3 with fail
    refine wp_region_held_drew (S := fun w' => Sr w B (.cells #[.int .i64 0, .int .i64 0, .int .i64 0, .int .i64 0, .int .i64 0, .int .i64 0, .int .i64 0, .int .u64 0] 82) w') (by kernel_rfl) (HS.out.drew) (fun hHeld => ?_)
    refine wpAnyH_take (i := 0) (v := .agg #[.pointer (some ⟨B, 0, none⟩)]) rfl (by kernel_rfl) (by kernel_rfl) (by kernel_rfl) (fun _ _ _ h => h) (Or.inl ⟨by kernel_rfl, fun w1 hSw => by clear hHeld; have k0 := HCe.out _ hSw; go_simp⟩) hHeld ?_
    try simp only [Act.put]
    try simp only [List.getElem_toArray]
    try simp only [List.getElem_cons_succ]
    try simp only [List.getElem_cons_zero]
    try simp only [List.setIfInBounds_toArray]
    try simp only [List.set_cons_succ, List.set_cons_zero]
    refine wpAnyH_take (i := 2) (v := .pointer (some ⟨w.heap.size, 0, none⟩)) rfl (by kernel_rfl) (by kernel_rfl) (by kernel_rfl) (fun _ _ _ h => h) (Or.inl ⟨by kernel_rfl, fun w1 hSw => by clear hHeld; have k0 := HCe.out _ hSw; go_simp⟩) hHeld ?_
    try simp only [Act.put]
    try simp only [List.getElem_toArray]
    try simp only [List.getElem_cons_succ]
    try simp only [List.getElem_cons_zero]
    try simp only [List.setIfInBounds_toArray]
    try simp only [List.set_cons_succ, List.set_cons_zero]
    refine wpAnyH_take (i := 3) (v := .pointer (some ⟨B, 0, none⟩)) rfl (by kernel_rfl) (by kernel_rfl) (by kernel_rfl) (fun _ _ _ h => h) (Or.inl ⟨by kernel_rfl, fun w1 hSw => by clear hHeld; have k0 := HCe.out _ hSw; go_simp⟩) hHeld ?_
    try simp only [Act.put]
    try simp only [List.getElem_toArray]
    try simp only [List.getElem_cons_succ]
    try simp only [List.getElem_cons_zero]
    try simp only [List.setIfInBounds_toArray]
    try simp only [List.set_cons_succ, List.set_cons_zero]
    refine wpAnyH_ready (rs := [1]) (by kernel_rfl) (by simp) ?_
    refine AllReadyH.cons rfl (fun K hK => ?_) AllReadyH.nil
    go_simp
    refine (HN6.out _ HR.out.drew).mono ?_
    rintro e U0 ⟨rfl, hx, hg⟩
    have HR1 := hide hx
    have HS1 := hide (hHeld.call hg HBl.out)
    have HX1 : Hid (Q.Bx U0 X ⟨j, a1, a2, a3, a4, a5, 0, 0⟩) := hide ((hg.block _ HX.out.lt (fun e => by have := HXs.out; have := HBl.out; injection e; omega)).trans HX.out)
    clear hx hg
    refine hK.out _ _ (HS1.out) (fun hHeld => ?_)
    clear hK K
    try simp only [Act.put]
    try simp only [List.getElem_toArray]
    try simp only [List.getElem_cons_succ]
    try simp only [List.getElem_cons_zero]
    try simp only [List.setIfInBounds_toArray]
    try simp only [List.set_cons_succ, List.set_cons_zero]
    refine wpAnyH_ready (rs := [4]) (by kernel_rfl) (by simp) ?_
    refine AllReadyH.cons rfl (fun K hK => ?_) AllReadyH.nil
    go_simp
    refine (HN7.out _ HR1.out).mono ?_
    rintro e U1 ⟨rfl, hx, hg⟩
    have HR2 := hide hx
    have HS2 := hide (hHeld.call hg HBl.out)
    have HX2 : Hid (Q.Bx U1 X ⟨j, a1, a2, a3, a4, a5, 0, 0⟩) := hide ((hg.block _ HX1.out.lt (fun e => by have := HXs.out; have := HBl.out; injection e; omega)).trans HX1.out)
    clear hx hg
    refine hK.out _ _ (HS2.out) (fun hHeld => ?_)
    clear hK K
    try simp only [Act.put]
    try simp only [List.getElem_toArray]
    try simp only [List.getElem_cons_succ]
    try simp only [List.getElem_cons_zero]
    try simp only [List.setIfInBounds_toArray]
    try simp only [List.set_cons_succ, List.set_cons_zero]
    refine wpAnyH_take (i := 5) (v := .agg #[.int .i64 (a6 : Int), .int .u64 (a7 : Int)]) rfl (by kernel_rfl) (by kernel_rfl) (by kernel_rfl) (fun _ _ _ h => h) (Or.inl ⟨by kernel_rfl, fun w1 hSw => by clear hHeld; have k0 := HCe.out _ hSw; go_simp⟩) hHeld ?_
    try simp only [Act.put]
    try simp only [List.getElem_toArray]
    try simp only [List.getElem_cons_succ]
    try simp only [List.getElem_cons_zero]
    try simp only [List.setIfInBounds_toArray]
    try simp only [List.set_cons_succ, List.set_cons_zero]
    refine wpAnyH_take (i := 6) (v := .pointer (some ⟨X, 6, none⟩)) rfl (by kernel_rfl) (by kernel_rfl) (by kernel_rfl) (fun _ _ _ h => h) (Or.inl ⟨by kernel_rfl, fun w1 hSw => by clear hHeld; have k0 := HCe.out _ hSw; go_simp⟩) hHeld ?_
    try simp only [Act.put]
    try simp only [List.getElem_toArray]
    try simp only [List.getElem_cons_succ]
    try simp only [List.getElem_cons_zero]
    try simp only [List.setIfInBounds_toArray]
    try simp only [List.set_cons_succ, List.set_cons_zero]
    refine wpAnyH_ready (rs := [7]) (by kernel_rfl) (by simp) ?_
    refine AllReadyH.cons rfl (fun K hK => ?_) AllReadyH.nil
    obtain ⟨d0, d1, d2, d3, d4, d5, d6, d7⟩ := HX2.out.cells
    have z0 := HX2.out.z 6
    have z1 := HX2.out.z 7
    have hXl := HX2.out.lt
    have HXF : Hid (Q.Bx ((U1.setCell ⟨X, 6, none⟩ (.int .i64 (a6 : Int))).setCell ⟨X, 7, none⟩ (.int .u64 (a7 : Int))) X ⟨j, a1, a2, a3, a4, a5, a6, a7⟩) := hide (bx_two HX2.out 6 (.int .i64 (a6 : Int)) 7 (.int .u64 (a7 : Int)) rfl)
    have HSF := hide ((HS2.out.set (X := X) 6 (.int .i64 (a6 : Int)) HXs.out).set (X := X) 7 (.int .u64 (a7 : Int)) HXs.out)
    have HRF := hide ((HR2.out.set (X := X) 6 (.int .i64 (a6 : Int)) (by have := HXs.out; have := HBl.out; omega)).set (X := X) 7 (.int .u64 (a7 : Int)) (by have := HXs.out; have := HBl.out; omega))
    go_simp
    refine hK.out _ _ (HSF.out) (fun hHeld => ?_)
    clear hK K
    try simp only [Act.put]
    try simp only [List.getElem_toArray]
    try simp only [List.getElem_cons_succ]
    try simp only [List.getElem_cons_zero]
    try simp only [List.setIfInBounds_toArray]
    try simp only [List.set_cons_succ, List.set_cons_zero]
    refine wpAnyH_done (by kernel_rfl) ?_ _
    clear HX1 HX2 HR1 HR2 HS1 HS2 HX HR HS hHeld
    have HX := HXF
    have HR := HRF
    have HS := HSF
    clear HXF HRF HSF
    generalize (U1.setCell _ _).setCell _ _ = W3 at *
    obtain ⟨d0, d1, d2, d3, d4, d5, d6, d7⟩ := HX.out.cells
    have hbr : Q.Bx W3 (w.heap.size + 1) rr0 := HS.out.r
    obtain ⟨e0, e1, e2, e3, e4, e5, e6, e7⟩ := hbr.cells
    have y0 := hbr.z 0
    have y1 := hbr.z 1
    have y2 := hbr.z 2
    have y3 := hbr.z 3
    have y4 := hbr.z 4
    have y5 := hbr.z 5
    have y6 := hbr.z 6
    have y7 := hbr.z 7
    have hyl := hbr.lt
    have hw1 : w.heap.size ≤ w.heap.size + 1 := Nat.le_succ _
    have HF : Hid (((((((((W3.setCell ⟨w.heap.size + 1, 0, none⟩ (.int .i64 j)).setCell ⟨w.heap.size + 1, 1, none⟩ (.int .i64 (a1 : Int))).setCell ⟨w.heap.size + 1, 2, none⟩ (.int .i64 (a2 : Int))).setCell ⟨w.heap.size + 1, 3, none⟩ (.int .i64 (a3 : Int))).setCell ⟨w.heap.size + 1, 4, none⟩ (.int .i64 (a4 : Int))).setCell ⟨w.heap.size + 1, 5, none⟩ (.int .i64 (a5 : Int))).setCell ⟨w.heap.size + 1, 6, none⟩ (.int .i64 (a6 : Int))).setCell ⟨w.heap.size + 1, 7, none⟩ (.int .u64 (a7 : Int))).heap[w.heap.size + 1]? = some (.cells #[.int .i64 j, .int .i64 (a1 : Int), .int .i64 (a2 : Int), .int .i64 (a3 : Int), .int .i64 (a4 : Int), .int .i64 (a5 : Int), .int .i64 (a6 : Int), .int .u64 (a7 : Int)] 82 (0, 0))) := hide (hbr.put ⟨j, a1, a2, a3, a4, a5, a6, a7⟩)
    have HRF : Hid (Rx B b more ((((((((W3.setCell ⟨w.heap.size + 1, 0, none⟩ (.int .i64 j)).setCell ⟨w.heap.size + 1, 1, none⟩ (.int .i64 (a1 : Int))).setCell ⟨w.heap.size + 1, 2, none⟩ (.int .i64 (a2 : Int))).setCell ⟨w.heap.size + 1, 3, none⟩ (.int .i64 (a3 : Int))).setCell ⟨w.heap.size + 1, 4, none⟩ (.int .i64 (a4 : Int))).setCell ⟨w.heap.size + 1, 5, none⟩ (.int .i64 (a5 : Int))).setCell ⟨w.heap.size + 1, 6, none⟩ (.int .i64 (a6 : Int))).setCell ⟨w.heap.size + 1, 7, none⟩ (.int .u64 (a7 : Int)))) := hide (HR.out.set8 (X := w.heap.size + 1) ⟨j, a1, a2, a3, a4, a5, a6, a7⟩ (by have := HBl.out; omega))
    have HGF : Hid (w.grownBy ((((((((W3.setCell ⟨w.heap.size + 1, 0, none⟩ (.int .i64 j)).setCell ⟨w.heap.size + 1, 1, none⟩ (.int .i64 (a1 : Int))).setCell ⟨w.heap.size + 1, 2, none⟩ (.int .i64 (a2 : Int))).setCell ⟨w.heap.size + 1, 3, none⟩ (.int .i64 (a3 : Int))).setCell ⟨w.heap.size + 1, 4, none⟩ (.int .i64 (a4 : Int))).setCell ⟨w.heap.size + 1, 5, none⟩ (.int .i64 (a5 : Int))).setCell ⟨w.heap.size + 1, 6, none⟩ (.int .i64 (a6 : Int))).setCell ⟨w.heap.size + 1, 7, none⟩ (.int .u64 (a7 : Int))) (some B)) := hide (gset (gset (gset (gset (gset (gset (gset (gset HS.out.g 0 _ hw1) 1 _ hw1) 2 _ hw1) 3 _ hw1) 4 _ hw1) 5 _ hw1) 6 _ hw1) 7 _ hw1)
    clear hbr HX HR HS
    go_wp2_with fail
    refine bodyPost_ret (results_rw rfl _ _ (w.heap.size + 1) #[.int .i64 j, .int .i64 (a1 : Int), .int .i64 (a2 : Int), .int .i64 (a3 : Int), .int .i64 (a4 : Int), .int .i64 (a5 : Int), .int .i64 (a6 : Int), .int .u64 (a7 : Int)] rfl HF.out rfl) rfl ?_
    exact ⟨rfl, HRF.out, HGF.out⟩
end Go.Proofs.YtepondcflkledaaGreat.S
end
