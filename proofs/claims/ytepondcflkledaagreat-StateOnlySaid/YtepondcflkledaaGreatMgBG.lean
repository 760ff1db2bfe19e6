import Derived.Test.YtepondcflkledaaGreatMgBF

section
namespace Go.Proofs.YtepondcflkledaaGreat.S
set_option maxRecDepth 20000
open Go.RowKit
open Rc (Ch)
open Q (Rr rr0 Qm Ft Mv)

theorem Tryz.infoSj : (Tryz.prog.info? 9).map (fun i => (i.zero, i.size, i.bytes)) = some (some (.string ByteArray.empty), 1, 16) := by kernel_rfl
theorem Sr.set10 {w w1 : World} {B : Nat} {O : Obj} (h : Sr w B O w1) {X : Nat} (hX : w.heap.size + 2 ≤ X) (x0 : Value) (x1 : Value) (x2 : Value) (x3 : Value) (x4 : Value) (x5 : Value) (x6 : Value) (x7 : Value) (x8 : Value) (x9 : Value) : Sr w B O ((((((((((w1.setCell ⟨X, 0, none⟩ x0).setCell ⟨X, 1, none⟩ x1).setCell ⟨X, 2, none⟩ x2).setCell ⟨X, 3, none⟩ x3).setCell ⟨X, 4, none⟩ x4).setCell ⟨X, 5, none⟩ x5).setCell ⟨X, 6, none⟩ x6).setCell ⟨X, 7, none⟩ x7).setCell ⟨X, 8, none⟩ x8).setCell ⟨X, 9, none⟩ x9) :=
  (((((((((h.set 0 _ hX).set 1 _ hX).set 2 _ hX).set 3 _ hX).set 4 _ hX).set 5 _ hX).set 6 _ hX).set 7 _ hX).set 8 _ hX).set 9 _ hX
theorem Rx.set10 {w : World} {B : Nat} {b : ByteArray} {more : List UInt8} (h : Rx B b more w) {X : Nat} (hX : B ≠ X) (x0 : Value) (x1 : Value) (x2 : Value) (x3 : Value) (x4 : Value) (x5 : Value) (x6 : Value) (x7 : Value) (x8 : Value) (x9 : Value) : Rx B b more ((((((((((w.setCell ⟨X, 0, none⟩ x0).setCell ⟨X, 1, none⟩ x1).setCell ⟨X, 2, none⟩ x2).setCell ⟨X, 3, none⟩ x3).setCell ⟨X, 4, none⟩ x4).setCell ⟨X, 5, none⟩ x5).setCell ⟨X, 6, none⟩ x6).setCell ⟨X, 7, none⟩ x7).setCell ⟨X, 8, none⟩ x8).setCell ⟨X, 9, none⟩ x9) :=
  (((((((((h.set 0 _ hX).set 1 _ hX).set 2 _ hX).set 3 _ hX).set 4 _ hX).set 5 _ hX).set 6 _ hX).set 7 _ hX).set 8 _ hX).set 9 _ hX
theorem Rx.grown {w w' : World} {B : Nat} {b : ByteArray} {more : List UInt8} {r : Option Nat} (h : Rx B b more w) (hg : w.grownBy w' r) (hn : some B ≠ r) : Rx B b more w' := by
  obtain ⟨p, h1, h2, h3⟩ := h.ex
  exact ⟨p, h1.grown hg hn, h2, h3⟩
theorem sr_grown {w w1 w2 : World} {B : Nat} {v : Value} (h : w.grownBy w1 (some B)) (hg : w1.grownBy w2 v.ownBlock) (hv : ∀ g, v.ownBlock = some g → w.heap.size ≤ g) : w.grownBy w2 (some B) :=
  ⟨hg.os.trans h.os, hg.tape.trans h.tape, hg.output.trans h.output, Nat.le_trans h.size hg.size, fun i hi hn => (hg.block i (Nat.lt_of_lt_of_le hi h.size) (fun e => by have := hv i e.symm; omega)).trans (h.block i hi hn)⟩
theorem tcs_take {lg : List ByteArray} {k : Nat} (h : k < lg.length) : tcs (lg.take (k + 1)) = tcs (lg.take k) ++ [.string lg[k]] := by
  show (lg.take (k + 1)).map Value.string = (lg.take k).map Value.string ++ [.string lg[k]]
  rw [← List.take_append_getElem h, List.map_append]; rfl
theorem layT_drop {lg : List ByteArray} {k : Nat} (h : k < lg.length) : Rc.layT (lg.drop k) = (Pk.enc (lg[k]).size ++ (lg[k]).data.toList) ++ Rc.layT (lg.drop (k + 1)) := by
  rw [List.drop_eq_getElem_cons h]; rfl
set_option maxHeartbeats 2000000 in
set_option maxRecDepth 20000 in
theorem rx_job {w : World} {B : Nat} {b : ByteArray} {more : List UInt8} {j : Int} {a1 a2 a3 a4 a5 a6 a7 : Nat} {pr : ByteArray} {lg : List ByteArray} (hb : b.size ≤ 140737488351232) (h : Rx B b (jb ⟨j, a1, a2, a3, a4, a5, a6, a7⟩ ⟨pr, lg⟩ ++ more) w)
    (h1 : a1 ≤ 1099511627776 ∧ a2 ≤ 1099511627776 ∧ a3 ≤ 1099511627776 ∧ a4 ≤ 1099511627776 ∧ a5 ≤ 1099511627776 ∧ a6 ≤ 1099511627776) (h7 : a7 < 18446744073709551616) (hpr : pr.size ≤ 1024) (hlg : lg.length ≤ 32) (h32 : ∀ x ∈ lg, x.size ≤ 32) :
    Calls Tryz.prog 53 #[.agg #[.pointer (some ⟨B, 0, none⟩)], .int .i64 j] w fun e w' => ∃ t, e = .returned (.agg (plC ⟨j, a1, a2, a3, a4, a5, a6, a7⟩ pr t)) ∧ w'.ownsRow w.heap.size 9 1 t lg.length (tcs lg) ∧ Rx B b more w' ∧ w.grownBy w' (some B) := by
  obtain ⟨iS, hiS, zS0, zS1, zS2⟩ := info_parts Tryz.infoSj
  have ha : jb ⟨j, a1, a2, a3, a4, a5, a6, a7⟩ ⟨pr, lg⟩ ++ more = encs [a1, a2, a3, a4, a5, a6] ++ (Pk.big8 a7 ++ ((Pk.enc pr.size ++ pr.data.toList) ++ (Pk.enc lg.length ++ (Rc.layT lg ++ more)))) := by
    simp only [jb, Int.toNat_natCast, encs_one, List.append_assoc]
  rw [ha] at h
  have HN1 : Hid (∀ V, Rx B b (encs [a1, a2, a3, a4, a5, a6] ++ (Pk.big8 a7 ++ ((Pk.enc pr.size ++ pr.data.toList) ++ (Pk.enc lg.length ++ (Rc.layT lg ++ more))))) V → Calls Tryz.prog 84 #[.agg #[.pointer (some ⟨B, 0, none⟩)], .int .i64 j] V fun e w' => e = .returned (Rr.val ⟨j, a1, a2, a3, a4, a5, a6, a7⟩) ∧ Rx B b ((Pk.enc pr.size ++ pr.data.toList) ++ (Pk.enc lg.length ++ (Rc.layT lg ++ more))) w' ∧ V.grownBy w' (some B)) := hide fun V hV => rx_row hb hV h1 h7
  have HN2 : Hid (∀ V, Rx B b ((Pk.enc pr.size ++ pr.data.toList) ++ (Pk.enc lg.length ++ (Rc.layT lg ++ more))) V → Calls Tryz.prog 85 #[.pointer (some ⟨B, 0, none⟩), .int .i64 1024] V fun e w' => e = .returned (.string pr) ∧ Rx B b (Pk.enc lg.length ++ (Rc.layT lg ++ more)) w' ∧ V.grownBy w' (some B)) := hide fun V hV => rx_text (M := 1024) hb hV hpr (by decide)
  have HN3 : Hid (∀ V, Rx B b (Pk.enc lg.length ++ (Rc.layT lg ++ more)) V → Calls Tryz.prog 52 #[.pointer (some ⟨B, 0, none⟩), .int .i64 32] V fun e w' => e = .returned (.int .i64 (lg.length : Int)) ∧ Rx B b (Rc.layT lg ++ more) w' ∧ V.grownBy w' (some B)) := hide fun V hV => rx_list (M := 32) hb hV hlg (by decide)
  have HNT : Hid (∀ (T : ByteArray) (m2 : List UInt8) V, T.size ≤ 32 → Rx B b ((Pk.enc T.size ++ T.data.toList) ++ m2) V → Calls Tryz.prog 85 #[.pointer (some ⟨B, 0, none⟩), .int .i64 32] V fun e w' => e = .returned (.string T) ∧ Rx B b m2 w' ∧ V.grownBy w' (some B)) := hide fun T m2 V hT hV => rx_text (M := 32) hb hV hT (by decide)
  have HBl := hide h.lt
  obtain ⟨r, hr⟩ : ∃ r : Rr, (⟨j, a1, a2, a3, a4, a5, a6, a7⟩ : Rr) = r := ⟨_, rfl⟩
  have hj : j = r.job := by rw [← hr]
  rw [hr] at HN1 ⊢
  clear hr
  subst hj
  have hs0 := World.size_alloc w (.cells #[.pointer (some ⟨B, 0, none⟩)] 120)
  have hn0 := heap_alloc_new w (.cells #[.pointer (some ⟨B, 0, none⟩)] 120)
  have hb1 := below_alloc (w.alloc (.cells #[.pointer (some ⟨B, 0, none⟩)] 120)) (.cells #[.int .i64 0, .int .i64 0, .int .i64 0, .int .i64 0, .int .i64 0, .int .i64 0, .int .i64 0, .int .u64 0, .string ⟨#[]⟩, .slice none 0 0] 84)
  have hn1 := heap_alloc_new (w.alloc (.cells #[.pointer (some ⟨B, 0, none⟩)] 120)) (.cells #[.int .i64 0, .int .i64 0, .int .i64 0, .int .i64 0, .int .i64 0, .int .i64 0, .int .i64 0, .int .u64 0, .string ⟨#[]⟩, .slice none 0 0] 84)
  rw [hs0] at hn1
  have hBB : Below w.heap.size w ((w.alloc (.cells #[.pointer (some ⟨B, 0, none⟩)] 120)).alloc (.cells #[.int .i64 0, .int .i64 0, .int .i64 0, .int .i64 0, .int .i64 0, .int .i64 0, .int .i64 0, .int .u64 0, .string ⟨#[]⟩, .slice none 0 0] 84)) := ((Below.refl _ w).alloc (Nat.le_refl _) _).alloc (by omega) _
  have HS0 : Hid (Sr w B (.cells #[.int .i64 0, .int .i64 0, .int .i64 0, .int .i64 0, .int .i64 0, .int .i64 0, .int .i64 0, .int .u64 0, .string ⟨#[]⟩, .slice none 0 0] 84) ((w.alloc (.cells #[.pointer (some ⟨B, 0, none⟩)] 120)).alloc (.cells #[.int .i64 0, .int .i64 0, .int .i64 0, .int .i64 0, .int .i64 0, .int .i64 0, .int .i64 0, .int .u64 0, .string ⟨#[]⟩, .slice none 0 0] 84)).drew) := hide (Sr.drew ⟨grown_below hBB _, (hb1.block _ (by omega)).trans hn0, hn1⟩)
  have HR0 : Hid (Rx B b _ ((w.alloc (.cells #[.pointer (some ⟨B, 0, none⟩)] 120)).alloc (.cells #[.int .i64 0, .int .i64 0, .int .i64 0, .int .i64 0, .int .i64 0, .int .i64 0, .int .i64 0, .int .u64 0, .string ⟨#[]⟩, .slice none 0 0] 84)).drew) := hide (h.below hBB).drew
  have HCe : Hid (∀ w' : World, (fun w' => Sr w B (.cells #[.int .i64 0, .int .i64 0, .int .i64 0, .int .i64 0, .int .i64 0, .int .i64 0, .int .i64 0, .int .u64 0, .string ⟨#[]⟩, .slice none 0 0] 84) w') w' → w'.cell? ⟨w.heap.size, 0, none⟩ = some (.pointer (some ⟨B, 0, none⟩))) := hide fun w' hw => by simp [World.cell?, hw.k]
  have H32 := hide h32
  clear h hs0 hn0 hb1 hn1 hBB h1 hb h7 hpr h32 ha
  go_enter Tryz.func53, Tryz.ntmps53
  go_upto_region 1 with fail
  generalize (w.alloc _).alloc _ = W at *
  go_cut [5] (fun p wc => ∃ X, p = .pointer (some ⟨X, 0, none⟩) ∧ Hid (wc.heap[X]? = some (.cells #[.int .i64 r.job, .int .i64 r.st, .int .i64 r.att, .int .i64 r.bdg, .int .i64 r.node, .int .i64 r.life, .int .i64 r.code, .int .u64 r.bits, .string pr, .slice none 0 0] 84 (0, 0))) ∧ Hid (Rx B b (Pk.enc lg.length ++ (Rc.layT lg ++ more)) wc) ∧ Hid (Sr w B (.cells #[.int .i64 0, .int .i64 0, .int .i64 0, .int .i64 0, .int .i64 0, .int .i64 0, .int .i64 0, .int .u64 0, .string ⟨#[]⟩, .slice none 0 0] 84) wc) ∧ Hid (w.heap.size + 2 ≤ X))
  case first =>
    refine wp_region_held_drew (S := fun w' => Sr w B (.cells #[.int .i64 0, .int .i64 0, .int .i64 0, .int .i64 0, .int .i64 0, .int .i64 0, .int .i64 0, .int .u64 0, .string ⟨#[]⟩, .slice none 0 0] 84) w') (by kernel_rfl) (HS0.out) (fun hHeld => ?_)
    refine wpAnyH_take (i := 0) (v := .agg #[.pointer (some ⟨B, 0, none⟩)]) rfl (by kernel_rfl) (by kernel_rfl) (by kernel_rfl) (fun _ _ _ h => h) (Or.inl ⟨by kernel_rfl, fun w1 hSw => by clear hHeld; have k0 := HCe.out _ hSw; go_simp⟩) hHeld ?_
    try simp only [Act.put]
    try simp only [List.getElem_toArray]
    try simp only [List.getElem_cons_succ]
    try simp only [List.getElem_cons_zero]
    try simp only [List.setIfInBounds_toArray]
    try simp only [List.set_cons_succ, List.set_cons_zero]
    refine wpAnyH_take (i := 1) (v := .int .i64 r.job) rfl (by kernel_rfl) (by kernel_rfl) (by kernel_rfl) (fun _ _ _ h => h) (Or.inl ⟨by kernel_rfl, fun w1 hSw => by clear hHeld; have k0 := HCe.out _ hSw; go_simp⟩) hHeld ?_
    try simp only [Act.put]
    try simp only [List.getElem_toArray]
    try simp only [List.getElem_cons_succ]
    try simp only [List.getElem_cons_zero]
    try simp only [List.setIfInBounds_toArray]
    try simp only [List.set_cons_succ, List.set_cons_zero]
    refine wpAnyH_take (i := 3) (v := .pointer (some ⟨w.heap.size, 0, none⟩)) rfl (by kernel_rfl) (by kernel_rfl) (by kernel_rfl) (fun _ _ _ h => h) (Or.inl ⟨by kernel_rfl, fun w1 hSw => by clear hHeld; have k0 := HCe.out _ hSw; go_simp⟩) hHeld ?_
    try simp only [Act.put]
    try simp only [List.getElem_toArray]
    try simp only [List.getElem_cons_succ]
    try simp only [List.getElem_cons_zero]
    try simp only [List.setIfInBounds_toArray]
    try simp only [List.set_cons_succ, List.set_cons_zero]
    refine wpAnyH_take (i := 4) (v := .pointer (some ⟨B, 0, none⟩)) rfl (by kernel_rfl) (by kernel_rfl) (by kernel_rfl) (fun _ _ _ h => h) (Or.inl ⟨by kernel_rfl, fun w1 hSw => by clear hHeld; have k0 := HCe.out _ hSw; go_simp⟩) hHeld ?_
    try simp only [Act.put]
    try simp only [List.getElem_toArray]
    try simp only [List.getElem_cons_succ]
    try simp only [List.getElem_cons_zero]
    try simp only [List.setIfInBounds_toArray]
    try simp only [List.set_cons_succ, List.set_cons_zero]
    refine wpAnyH_ready (rs := [2, 7]) (by kernel_rfl) (by simp) ?_
    refine AllReadyH.cons rfl (fun K hK => ?_) (AllReadyH.cons rfl (fun K hK => ?_) AllReadyH.nil)
    · go_simp
      refine (HN1.out _ HR0.out).mono ?_
      rintro e V1 ⟨rfl, hx, hg⟩
      have HR1 := hide hx
      have HS1 := hide (hHeld.call hg HBl.out)
      clear hx hg HR0
      simp only [Rr.val]
      refine hK.out _ _ (HS1.out) (fun hHeld => ?_)
      clear hK K
      try simp only [Act.put]
      try simp only [List.getElem_toArray]
      try simp only [List.getElem_cons_succ]
      try simp only [List.getElem_cons_zero]
      try simp only [List.setIfInBounds_toArray]
      try simp only [List.set_cons_succ, List.set_cons_zero]
      refine wpAnyH_ready (rs := [5, 7]) (by kernel_rfl) (by simp) ?_
      refine AllReadyH.cons rfl (fun K hK => ?_) (AllReadyH.cons rfl (fun K hK => ?_) AllReadyH.nil)
      · go_simp
        refine (HN2.out _ HR1.out).mono ?_
        rintro e V2 ⟨rfl, hx, hg⟩
        have HR2 := hide hx
        have HS2 := hide (hHeld.call hg HBl.out)
        clear hx hg HR1
        refine hK.out _ _ (HS2.out) (fun hHeld => ?_)
        clear hK K
        try simp only [Act.put]
        try simp only [List.getElem_toArray]
        try simp only [List.getElem_cons_succ]
        try simp only [List.getElem_cons_zero]
        try simp only [List.setIfInBounds_toArray]
        try simp only [List.set_cons_succ, List.set_cons_zero]
        refine wpAnyH_take (i := 6) (v := .agg #[.int .i64 r.job, .int .i64 r.st, .int .i64 r.att, .int .i64 r.bdg, .int .i64 r.node, .int .i64 r.life, .int .i64 r.code, .int .u64 r.bits, .string pr, .slice none 0 0]) rfl (by kernel_rfl) (by kernel_rfl) (by kernel_rfl) (fun _ _ _ h => h) (Or.inl ⟨by kernel_rfl, fun w1 hSw => by clear hHeld; have k0 := HCe.out _ hSw; go_simp⟩) hHeld ?_
        try simp only [Act.put]
        try simp only [List.getElem_toArray]
        try simp only [List.getElem_cons_succ]
        try simp only [List.getElem_cons_zero]
        try simp only [List.setIfInBounds_toArray]
        try simp only [List.set_cons_succ, List.set_cons_zero]
        refine wpAnyH_ready (rs := [7]) (by kernel_rfl) (by simp) ?_
        refine AllReadyH.cons rfl (fun K hK => ?_) AllReadyH.nil
        go_simp
        have HS3 := hide (hHeld.below (below_alloc V2 (.cells #[.int .i64 0, .int .i64 0, .int .i64 0, .int .i64 0, .int .i64 0, .int .i64 0, .int .i64 0, .int .u64 0, .string ⟨#[]⟩, .slice none 0 0] 84)))
        have HR3 := hide (HR2.out.below (below_alloc V2 (.cells #[.int .i64 0, .int .i64 0, .int .i64 0, .int .i64 0, .int .i64 0, .int .i64 0, .int .i64 0, .int .u64 0, .string ⟨#[]⟩, .slice none 0 0] 84)))
        have HXs : Hid (w.heap.size + 2 ≤ V2.heap.size) := hide (by have := hHeld.sz; exact this)
        have HX3 : Hid ((V2.alloc (.cells #[.int .i64 0, .int .i64 0, .int .i64 0, .int .i64 0, .int .i64 0, .int .i64 0, .int .i64 0, .int .u64 0, .string ⟨#[]⟩, .slice none 0 0] 84)).heap[V2.heap.size]? = some (.cells #[.int .i64 0, .int .i64 0, .int .i64 0, .int .i64 0, .int .i64 0, .int .i64 0, .int .i64 0, .int .u64 0, .string ⟨#[]⟩, .slice none 0 0] 84 (0, 0))) := hide (heap_alloc_new _ _)
        clear HR2
        generalize hXX : V2.heap.size = XX at *
        clear hXX
        refine hK.out _ _ (HS3.out) (fun hHeld => ?_)
        clear hK K
        try simp only [Act.put]
        try simp only [List.getElem_toArray]
        try simp only [List.getElem_cons_succ]
        try simp only [List.getElem_cons_zero]
        try simp only [List.setIfInBounds_toArray]
        try simp only [List.set_cons_succ, List.set_cons_zero]
        refine wpAnyH_ready (rs := [8]) (by kernel_rfl) (by simp) ?_
        refine AllReadyH.cons rfl (fun K hK => ?_) AllReadyH.nil
        try generalize World.alloc _ _ = VA at *
        obtain ⟨d0, d1, d2, d3, d4, d5, d6, d7, d8, d9, z0, z1, z2, z3, z4, z5, z6, z7, z8, z9⟩ := pl_of HX3.out
        have hXl := lt_of_block HX3.out
        have HXF := hide (pl_set HX3.out (.int .i64 r.job) (.int .i64 r.st) (.int .i64 r.att) (.int .i64 r.bdg) (.int .i64 r.node) (.int .i64 r.life) (.int .i64 r.code) (.int .u64 r.bits) (.string pr) (.slice none 0 0))
        have HSF := hide (HS3.out.set10 (X := XX) HXs.out (.int .i64 r.job) (.int .i64 r.st) (.int .i64 r.att) (.int .i64 r.bdg) (.int .i64 r.node) (.int .i64 r.life) (.int .i64 r.code) (.int .u64 r.bits) (.string pr) (.slice none 0 0))
        have HRF := hide (HR3.out.set10 (X := XX) (by have := HXs.out; have := HBl.out; omega) (.int .i64 r.job) (.int .i64 r.st) (.int .i64 r.att) (.int .i64 r.bdg) (.int .i64 r.node) (.int .i64 r.life) (.int .i64 r.code) (.int .u64 r.bits) (.string pr) (.slice none 0 0))
        go_simp
        refine hK.out _ _ (HSF.out) (fun hHeld => ?_)
        clear hK K
        try simp only [Act.put]
        try simp only [List.getElem_toArray]
        try simp only [List.getElem_cons_succ]
        try simp only [List.getElem_cons_zero]
        try simp only [List.setIfInBounds_toArray]
        try simp only [List.set_cons_succ, List.set_cons_zero]
        refine wpAnyH_done (by kernel_rfl) ?_ _
        go_wp2_with fail
        go_meet
        case rel => exact ⟨_, rfl, HXF, HRF, HSF, HXs⟩
      · go_simp
        have HS2 := hide (hHeld.below (below_alloc V1 (.cells #[.int .i64 0, .int .i64 0, .int .i64 0, .int .i64 0, .int .i64 0, .int .i64 0, .int .i64 0, .int .u64 0, .string ⟨#[]⟩, .slice none 0 0] 84)))
        have HR2 := hide (HR1.out.below (below_alloc V1 (.cells #[.int .i64 0, .int .i64 0, .int .i64 0, .int .i64 0, .int .i64 0, .int .i64 0, .int .i64 0, .int .u64 0, .string ⟨#[]⟩, .slice none 0 0] 84)))
        have HXs : Hid (w.heap.size + 2 ≤ V1.heap.size) := hide (by have := hHeld.sz; exact this)
        have HX2 : Hid ((V1.alloc (.cells #[.int .i64 0, .int .i64 0, .int .i64 0, .int .i64 0, .int .i64 0, .int .i64 0, .int .i64 0, .int .u64 0, .string ⟨#[]⟩, .slice none 0 0] 84)).heap[V1.heap.size]? = some (.cells #[.int .i64 0, .int .i64 0, .int .i64 0, .int .i64 0, .int .i64 0, .int .i64 0, .int .i64 0, .int .u64 0, .string ⟨#[]⟩, .slice none 0 0] 84 (0, 0))) := hide (heap_alloc_new _ _)
        clear HR1
        generalize hXX : V1.heap.size = XX at *
        clear hXX
        refine hK.out _ _ (HS2.out) (fun hHeld => ?_)
        clear hK K
        try simp only [Act.put]
        try simp only [List.getElem_toArray]
        try simp only [List.getElem_cons_succ]
        try simp only [List.getElem_cons_zero]
        try simp only [List.setIfInBounds_toArray]
        try simp only [List.set_cons_succ, List.set_cons_zero]
        refine wpAnyH_ready (rs := [5]) (by kernel_rfl) (by simp) ?_
        refine AllReadyH.cons rfl (fun K hK => ?_) AllReadyH.nil
        go_simp
        refine (HN2.out _ HR2.out).mono ?_
        rintro e V3 ⟨rfl, hx, hg⟩
        have HR3 := hide hx
        have HS3 := hide (hHeld.call hg HBl.out)
        have HX3 : Hid (V3.heap[XX]? = some (.cells #[.int .i64 0, .int .i64 0, .int .i64 0, .int .i64 0, .int .i64 0, .int .i64 0, .int .i64 0, .int .u64 0, .string ⟨#[]⟩, .slice none 0 0] 84 (0, 0))) := hide ((hg.block _ (lt_of_block HX2.out) (fun e => by have := HXs.out; have := HBl.out; injection e; omega)).trans HX2.out)
        clear hx hg HR2
        clear HX2
        refine hK.out _ _ (HS3.out) (fun hHeld => ?_)
        clear hK K
        try simp only [Act.put]
        try simp only [List.getElem_toArray]
        try simp only [List.getElem_cons_succ]
        try simp only [List.getElem_cons_zero]
        try simp only [List.setIfInBounds_toArray]
        try simp only [List.set_cons_succ, List.set_cons_zero]
        refine wpAnyH_take (i := 6) (v := .agg #[.int .i64 r.job, .int .i64 r.st, .int .i64 r.att, .int .i64 r.bdg, .int .i64 r.node, .int .i64 r.life, .int .i64 r.code, .int .u64 r.bits, .string pr, .slice none 0 0]) rfl (by kernel_rfl) (by kernel_rfl) (by kernel_rfl) (fun _ _ _ h => h) (Or.inl ⟨by kernel_rfl, fun w1 hSw => by clear hHeld; have k0 := HCe.out _ hSw; go_simp⟩) hHeld ?_
        try simp only [Act.put]
        try simp only [List.getElem_toArray]
        try simp only [List.getElem_cons_succ]
        try simp only [List.getElem_cons_zero]
        try simp only [List.setIfInBounds_toArray]
        try simp only [List.set_cons_succ, List.set_cons_zero]
        refine wpAnyH_ready (rs := [8]) (by kernel_rfl) (by simp) ?_
        refine AllReadyH.cons rfl (fun K hK => ?_) AllReadyH.nil
        try generalize World.alloc _ _ = VA at *
        obtain ⟨d0, d1, d2, d3, d4, d5, d6, d7, d8, d9, z0, z1, z2, z3, z4, z5, z6, z7, z8, z9⟩ := pl_of HX3.out
        have hXl := lt_of_block HX3.out
        have HXF := hide (pl_set HX3.out (.int .i64 r.job) (.int .i64 r.st) (.int .i64 r.att) (.int .i64 r.bdg) (.int .i64 r.node) (.int .i64 r.life) (.int .i64 r.code) (.int .u64 r.bits) (.string pr) (.slice none 0 0))
        have HSF := hide (HS3.out.set10 (X := XX) HXs.out (.int .i64 r.job) (.int .i64 r.st) (.int .i64 r.att) (.int .i64 r.bdg) (.int .i64 r.node) (.int .i64 r.life) (.int .i64 r.code) (.int .u64 r.bits) (.string pr) (.slice none 0 0))
        have HRF := hide (HR3.out.set10 (X := XX) (by have := HXs.out; have := HBl.out; omega) (.int .i64 r.job) (.int .i64 r.st) (.int .i64 r.att) (.int .i64 r.bdg) (.int .i64 r.node) (.int .i64 r.life) (.int .i64 r.code) (.int .u64 r.bits) (.string pr) (.slice none 0 0))
        go_simp
        refine hK.out _ _ (HSF.out) (fun hHeld => ?_)
        clear hK K
        try simp only [Act.put]
        try simp only [List.getElem_toArray]
        try simp only [List.getElem_cons_succ]
        try simp only [List.getElem_cons_zero]
        try simp only [List.setIfInBounds_toArray]
        try simp only [List.set_cons_succ, List.set_cons_zero]
        refine wpAnyH_done (by kernel_rfl) ?_ _
        go_wp2_with fail
        go_meet
        case rel => exact ⟨_, rfl, HXF, HRF, HSF, HXs⟩
    · go_simp
      have HS1 := hide (hHeld.below (below_alloc W.drew (.cells #[.int .i64 0, .int .i64 0, .int .i64 0, .int .i64 0, .int .i64 0, .int .i64 0, .int .i64 0, .int .u64 0, .string ⟨#[]⟩, .slice none 0 0] 84)))
      have HR1 := hide (HR0.out.below (below_alloc W.drew (.cells #[.int .i64 0, .int .i64 0, .int .i64 0, .int .i64 0, .int .i64 0, .int .i64 0, .int .i64 0, .int .u64 0, .string ⟨#[]⟩, .slice none 0 0] 84)))
      have HXs : Hid (w.heap.size + 2 ≤ W.heap.size) := hide (by have := hHeld.sz; exact this)
      have HX1 : Hid ((W.drew.alloc (.cells #[.int .i64 0, .int .i64 0, .int .i64 0, .int .i64 0, .int .i64 0, .int .i64 0, .int .i64 0, .int .u64 0, .string ⟨#[]⟩, .slice none 0 0] 84)).heap[W.heap.size]? = some (.cells #[.int .i64 0, .int .i64 0, .int .i64 0, .int .i64 0, .int .i64 0, .int .i64 0, .int .i64 0, .int .u64 0, .string ⟨#[]⟩, .slice none 0 0] 84 (0, 0))) := hide (heap_alloc_new _ _)
      clear HR0
      generalize hXX : W.heap.size = XX at *
      refine hK.out _ _ (HS1.out) (fun hHeld => ?_)
      clear hK K
      try simp only [Act.put]
      try simp only [List.getElem_toArray]
      try simp only [List.getElem_cons_succ]
      try simp only [List.getElem_cons_zero]
      try simp only [List.setIfInBounds_toArray]
      try simp only [List.set_cons_succ, List.set_cons_zero]
      refine wpAnyH_ready (rs := [2]) (by kernel_rfl) (by simp) ?_
      refine AllReadyH.cons rfl (fun K hK => ?_) AllReadyH.nil
      go_simp
      refine (HN1.out _ HR1.out).mono ?_
      rintro e V2 ⟨rfl, hx, hg⟩
      have HR2 := hide hx
      have HS2 := hide (hHeld.call hg HBl.out)
      have HX2 : Hid (V2.heap[XX]? = some (.cells #[.int .i64 0, .int .i64 0, .int .i64 0, .int .i64 0, .int .i64 0, .int .i64 0, .int .i64 0, .int .u64 0, .string ⟨#[]⟩, .slice none 0 0] 84 (0, 0))) := hide ((hg.block _ (lt_of_block HX1.out) (fun e => by have := HXs.out; have := HBl.out; injection e; omega)).trans HX1.out)
      clear hx hg HR1
      clear HX1
      simp only [Rr.val]
      refine hK.out _ _ (HS2.out) (fun hHeld => ?_)
      clear hK K
      try simp only [Act.put]
      try simp only [List.getElem_toArray]
      try simp only [List.getElem_cons_succ]
      try simp only [List.getElem_cons_zero]
      try simp only [List.setIfInBounds_toArray]
      try simp only [List.set_cons_succ, List.set_cons_zero]
      refine wpAnyH_ready (rs := [5]) (by kernel_rfl) (by simp) ?_
      refine AllReadyH.cons rfl (fun K hK => ?_) AllReadyH.nil
      go_simp
      refine (HN2.out _ HR2.out).mono ?_
      rintro e V3 ⟨rfl, hx, hg⟩
      have HR3 := hide hx
      have HS3 := hide (hHeld.call hg HBl.out)
      have HX3 : Hid (V3.heap[XX]? = some (.cells #[.int .i64 0, .int .i64 0, .int .i64 0, .int .i64 0, .int .i64 0, .int .i64 0, .int .i64 0, .int .u64 0, .string ⟨#[]⟩, .slice none 0 0] 84 (0, 0))) := hide ((hg.block _ (lt_of_block HX2.out) (fun e => by have := HXs.out; have := HBl.out; injection e; omega)).trans HX2.out)
      clear hx hg HR2
      clear HX2
      refine hK.out _ _ (HS3.out) (fun hHeld => ?_)
      clear hK K
      try simp only [Act.put]
      try simp only [List.getElem_toArray]
      try simp only [List.getElem_cons_succ]
      try simp only [List.getElem_cons_zero]
      try simp only [List.setIfInBounds_toArray]
      try simp only [List.set_cons_succ, List.set_cons_zero]
      refine wpAnyH_take (i := 6) (v := .agg #[.int .i64 r.job, .int .i64 r.st, .int .i64 r.att, .int .i64 r.bdg, .int .i64 r.node, .int .i64 r.life, .int .i64 r.code, .int .u64 r.bits, .string pr, .slice none 0 0]) rfl (by kernel_rfl) (by kernel_rfl) (by kernel_rfl) (fun _ _ _ h => h) (Or.inl ⟨by kernel_rfl, fun w1 hSw => by clear hHeld; have k0 := HCe.out _ hSw; go_simp⟩) hHeld ?_
      try simp only [Act.put]
      try simp only [List.getElem_toArray]
      try simp only [List.getElem_cons_succ]
      try simp only [List.getElem_cons_zero]
      try simp only [List.setIfInBounds_toArray]
      try simp only [List.set_cons_succ, List.set_cons_zero]
      refine wpAnyH_ready (rs := [8]) (by kernel_rfl) (by simp) ?_
      refine AllReadyH.cons rfl (fun K hK => ?_) AllReadyH.nil
      try generalize World.alloc _ _ = VA at *
      obtain ⟨d0, d1, d2, d3, d4, d5, d6, d7, d8, d9, z0, z1, z2, z3, z4, z5, z6, z7, z8, z9⟩ := pl_of HX3.out
      have hXl := lt_of_block HX3.out
      have HXF := hide (pl_set HX3.out (.int .i64 r.job) (.int .i64 r.st) (.int .i64 r.att) (.int .i64 r.bdg) (.int .i64 r.node) (.int .i64 r.life) (.int .i64 r.code) (.int .u64 r.bits) (.string pr) (.slice none 0 0))
      have HSF := hide (HS3.out.set10 (X := XX) HXs.out (.int .i64 r.job) (.int .i64 r.st) (.int .i64 r.att) (.int .i64 r.bdg) (.int .i64 r.node) (.int .i64 r.life) (.int .i64 r.code) (.int .u64 r.bits) (.string pr) (.slice none 0 0))
      have HRF := hide (HR3.out.set10 (X := XX) (by have := HXs.out; have := HBl.out; omega) (.int .i64 r.job) (.int .i64 r.st) (.int .i64 r.att) (.int .i64 r.bdg) (.int .i64 r.node) (.int .i64 r.life) (.int .i64 r.code) (.int .u64 r.bits) (.string pr) (.slice none 0 0))
      go_simp
      refine hK.out _ _ (HSF.out) (fun hHeld => ?_)
      clear hK K
      try simp only [Act.put]
      try simp only [List.getElem_toArray]
      try simp only [List.getElem_cons_succ]
      try simp only [List.getElem_cons_zero]
      try simp only [List.setIfInBounds_toArray]
      try simp only [List.set_cons_succ, List.set_cons_zero]
      refine wpAnyH_done (by kernel_rfl) ?_ _
      go_wp2_with fail
      go_meet
      case rel => exact ⟨_, rfl, HXF, HRF, HSF, HXs⟩
  case rest =>
    obtain ⟨X, rfl, HX, HR, HS, HXs⟩ := hcut
    clear HS0 HR0 HN1 HN2
    have k0 := HCe.out _ HS.out
    have HL := hide (HN3.out _ HR.out)
    go_wp2_with fail
    refine HL.out.mono ?_
    rintro e w3 ⟨rfl, hx, hg⟩
    have HR3 := hide hx
    have HS3 := hide (HS.out.call hg HBl.out)
    have HX3 : Hid (w3.heap[X]? = some (.cells #[.int .i64 r.job, .int .i64 r.st, .int .i64 r.att, .int .i64 r.bdg, .int .i64 r.node, .int .i64 r.life, .int .i64 r.code, .int .u64 r.bits, .string pr, .slice none 0 0] 84 (0, 0))) := hide ((hg.block X (lt_of_block HX.out) (fun e => by have := HXs.out; have := HBl.out; injection e; omega)).trans HX.out)
    clear hx hg HL HR HS HX HN3 k0
    go_wp2_with fail
    go_loopw [16] (fun u wr => ∃ (k : Nat) (tp : Option Addr) (tc : Nat), u = .int .i64 (k : Int) ∧ k ≤ lg.length ∧ Hid (wr.heap[X]? = some (.cells #[.int .i64 r.job, .int .i64 r.st, .int .i64 r.att, .int .i64 r.bdg, .int .i64 r.node, .int .i64 r.life, .int .i64 r.code, .int .u64 r.bits, .string pr, .slice tp k tc] 84 (0, 0))) ∧ Hid (wr.ownsRow w.heap.size 9 1 (.slice tp k tc) k (tcs (lg.take k))) ∧ Hid (Rx B b (Rc.layT (lg.drop k) ++ more) wr) ∧ Hid (Sr w B (.cells #[.int .i64 0, .int .i64 0, .int .i64 0, .int .i64 0, .int .i64 0, .int .i64 0, .int .i64 0, .int .u64 0, .string ⟨#[]⟩, .slice none 0 0] 84) wr)) (fun u _ => lg.length - (intOf u).toNat)
    case atStart => exact ⟨0, none, 0, rfl, Nat.zero_le _, HX3, hide ⟨rfl, .inl ⟨rfl, rfl⟩⟩, HR3, HS3⟩
    case round =>
      clear HX3 HR3 HS3
      obtain ⟨k, tp, tc, rfl, hk, HX, HO, HR, HS⟩ := hrel
      by_cases hkl : k < lg.length
      · have hki : (k : Int) < (lg.length : Int) := by omega
        have HTk := hide (tcs_take hkl)
        have hT32 := H32.out _ (List.getElem_mem hkl)
        rw [layT_drop hkl, List.append_assoc] at HR
        obtain ⟨T, hT⟩ : ∃ T, lg[k] = T := ⟨_, rfl⟩
        rw [hT] at HTk hT32 HR
        have HNt : Hid (∀ V, Rx B b ((Pk.enc T.size ++ T.data.toList) ++ (Rc.layT (lg.drop (k + 1)) ++ more)) V → Calls Tryz.prog 85 #[.pointer (some ⟨B, 0, none⟩), .int .i64 32] V fun e w' => e = .returned (.string T) ∧ Rx B b (Rc.layT (lg.drop (k + 1)) ++ more) w' ∧ V.grownBy w' (some B)) := hide fun V hV => HNT.out T _ V hT32 hV
        have x0 : wr.cell? ⟨X, 9, none⟩ = some (.slice tp k tc) := by simp [World.cell?, HX.out]
        have hXl := lt_of_block HX.out
        clear hT hT32
        go_upto_region 4 with fail
        refine wp_region_held_drew (S := fun w' => Sr w B (.cells #[.int .i64 0, .int .i64 0, .int .i64 0, .int .i64 0, .int .i64 0, .int .i64 0, .int .i64 0, .int .u64 0, .string ⟨#[]⟩, .slice none 0 0] 84) w') (by kernel_rfl) (HS.out.drew) (fun hHeld => ?_)
        refine wpAnyH_take (i := 0) (v := .pointer (some ⟨X, 9, none⟩)) rfl (by kernel_rfl) (by kernel_rfl) (by kernel_rfl) (fun _ _ _ h => h) (Or.inl ⟨by kernel_rfl, fun w1 hSw => by clear hHeld; have k0 := HCe.out _ hSw; go_simp⟩) hHeld ?_
        try simp only [Act.put]
        try simp only [List.getElem_toArray]
        try simp only [List.getElem_cons_succ]
        try simp only [List.getElem_cons_zero]
        try simp only [List.setIfInBounds_toArray]
        try simp only [List.set_cons_succ, List.set_cons_zero]
        refine wpAnyH_take (i := 2) (v := .pointer (some ⟨w.heap.size, 0, none⟩)) rfl (by kernel_rfl) (by kernel_rfl) (by kernel_rfl) (fun _ _ _ h => h) (Or.inl ⟨by kernel_rfl, fun w1 hSw => by clear hHeld; have k0 := HCe.out _ hSw; go_simp⟩) hHeld ?_
        try simp only [Act.put]
        try simp only [List.getElem_toArray]
        try simp only [List.getElem_cons_succ]
        try simp only [List.getElem_cons_zero]
        try simp only [List.setIfInBounds_toArray]
        try simp only [List.set_cons_succ, List.set_cons_zero]
        refine wpAnyH_take (i := 3) (v := .pointer (some ⟨B, 0, none⟩)) rfl (by kernel_rfl) (by kernel_rfl) (by kernel_rfl) (fun _ _ _ h => h) (Or.inl ⟨by kernel_rfl, fun w1 hSw => by clear hHeld; have k0 := HCe.out _ hSw; go_simp⟩) hHeld ?_
        try simp only [Act.put]
        try simp only [List.getElem_toArray]
        try simp only [List.getElem_cons_succ]
        try simp only [List.getElem_cons_zero]
        try simp only [List.setIfInBounds_toArray]
        try simp only [List.set_cons_succ, List.set_cons_zero]
        refine wpAnyH_ready (rs := [1, 4]) (by kernel_rfl) (by simp) ?_
        refine AllReadyH.cons rfl (fun K hK => ?_) (AllReadyH.cons rfl (fun K hK => ?_) AllReadyH.nil)
        · go_simp
          refine hK.out _ _ (hHeld) (fun hHeld => ?_)
          clear hK K
          try simp only [Act.put]
          try simp only [List.getElem_toArray]
          try simp only [List.getElem_cons_succ]
          try simp only [List.getElem_cons_zero]
          try simp only [List.setIfInBounds_toArray]
          try simp only [List.set_cons_succ, List.set_cons_zero]
          refine wpAnyH_ready (rs := [4]) (by kernel_rfl) (by simp) ?_
          refine AllReadyH.cons rfl (fun K hK => ?_) AllReadyH.nil
          go_simp
          refine (HNt.out _ HR.out.drew).mono ?_
          rintro e V ⟨rfl, hx, hg⟩
          have HR1 := hide hx
          have HS1 := hide (hHeld.call hg HBl.out)
          have HX1 : Hid (V.heap[X]? = some (.cells #[.int .i64 r.job, .int .i64 r.st, .int .i64 r.att, .int .i64 r.bdg, .int .i64 r.node, .int .i64 r.life, .int .i64 r.code, .int .u64 r.bits, .string pr, .slice tp k tc] 84 (0, 0))) := hide ((hg.block X hXl (fun e => by have := HXs.out; have := HBl.out; injection e; omega)).trans HX.out)
          have HO1 : Hid (V.ownsRow w.heap.size 9 1 (.slice tp k tc) k (tcs (lg.take k))) := hide (own_keep HO.out fun g hg2 => hg.block g (HO.out.lt g hg2).2 (fun e => by have := (HO.out.lt g hg2).1; have := HBl.out; injection e; omega))
          have x1 : V.cell? ⟨X, 9, none⟩ = some (.slice tp k tc) := by simp [World.cell?, HX1.out]
          clear hx hg
          refine hK.out _ _ (HS1.out) (fun hHeld => ?_)
          clear hK K
          try simp only [Act.put]
          try simp only [List.getElem_toArray]
          try simp only [List.getElem_cons_succ]
          try simp only [List.getElem_cons_zero]
          try simp only [List.setIfInBounds_toArray]
          try simp only [List.set_cons_succ, List.set_cons_zero]
          refine wpAnyH_ready (rs := [5]) (by kernel_rfl) (by simp) ?_
          refine AllReadyH.cons rfl (fun K hK => ?_) AllReadyH.nil
          go_simp
          have HS2 := hide (HS1.out.below (below_alloc V (.cells #[.string T] 9)))
          have HR2 := hide (HR1.out.below (below_alloc V (.cells #[.string T] 9)))
          have HX2 : Hid ((V.alloc (.cells #[.string T] 9)).heap[X]? = some (.cells #[.int .i64 r.job, .int .i64 r.st, .int .i64 r.att, .int .i64 r.bdg, .int .i64 r.node, .int .i64 r.life, .int .i64 r.code, .int .u64 r.bits, .string pr, .slice tp k tc] 84 (0, 0))) := hide (((below_alloc V (.cells #[.string T] 9)).block _ (lt_of_block HX1.out)).trans HX1.out)
          have HO2 : Hid ((V.alloc (.cells #[.string T] 9)).ownsRow w.heap.size 9 1 (.slice tp k tc) k (tcs (lg.take k))) := hide (own_keep HO1.out fun g hg2 => (below_alloc V (.cells #[.string T] 9)).block g (HO1.out.lt g hg2).2)
          have hnew : (V.alloc (.cells #[.string T] 9)).heap[V.heap.size]? = some (.cells #[.string T] 9 (0, 0)) := heap_alloc_new V _
          have x2 : (V.alloc (.cells #[.string T] 9)).cell? ⟨X, 9, none⟩ = some (.slice tp k tc) := Lib.cell?_alloc_some _ x1
          refine hK.out _ _ (HS2.out) (fun hHeld => ?_)
          clear hK K
          try simp only [Act.put]
          try simp only [List.getElem_toArray]
          try simp only [List.getElem_cons_succ]
          try simp only [List.getElem_cons_zero]
          try simp only [List.setIfInBounds_toArray]
          try simp only [List.set_cons_succ, List.set_cons_zero]
          refine wpAnyH_ready (rs := [6]) (by kernel_rfl) (by simp) ?_
          refine AllReadyH.cons rfl (fun K hK => ?_) AllReadyH.nil
          rw [if_pos (by kernel_rfl)]
          refine wp_append_own _ _ _ 52 rfl w.heap.size 9 iS _ 1 16 Tryz.underlying52 hiS zS0 zS1 zS2 rfl (by decide) (.slice tp k tc) k (tcs (lg.take k)) (by rfl) HO2.out ⟨V.heap.size, 0, none⟩ 1 1 [.string T] (by rfl) rfl (fun j u hu => by rw [Addr.add_lit, Nat.zero_add]; simp only [World.cell?, hnew]; simpa using hu) (by intro u hu; simp only [List.mem_cons, List.not_mem_nil, or_false] at hu; rw [hu]; rfl) (by unfold maxLen; omega) (by omega) (by rw [World.size_alloc]; have := HS1.out.sz; omega) ?_
          intro v9 w9 hown hgrow _
          obtain ⟨p9, c9, rfl⟩ := own_slice hown
          have hnb : ∀ g (t : TypeId) cs, t ≠ 9 → (V.alloc (.cells #[.string T] 9)).heap[g]? = some (Obj.cells cs t (0, 0)) → w9.heap[g]? = some (Obj.cells cs t (0, 0)) := fun g t cs ht h => (hgrow.block g (lt_of_block h) (fun e => own_ty HO2.out h ht e.symm)).trans h
          have HS9 : Hid (Sr w B (.cells #[.int .i64 0, .int .i64 0, .int .i64 0, .int .i64 0, .int .i64 0, .int .i64 0, .int .i64 0, .int .u64 0, .string ⟨#[]⟩, .slice none 0 0] 84) w9) := hide ⟨sr_grown HS2.out.g hgrow (fun g hg2 => (HO2.out.lt g hg2).1), hnb _ _ _ (by decide) HS2.out.k, hnb _ _ _ (by decide) HS2.out.r⟩
          have HX9 : Hid (w9.heap[X]? = some (.cells #[.int .i64 r.job, .int .i64 r.st, .int .i64 r.att, .int .i64 r.bdg, .int .i64 r.node, .int .i64 r.life, .int .i64 r.code, .int .u64 r.bits, .string pr, .slice tp k tc] 84 (0, 0))) := hide (hnb _ _ _ (by decide) HX2.out)
          have HR9 : Hid (Rx B b _ w9) := hide (HR2.out.grown hgrow (fun e => by have := (HO2.out.lt B e.symm).1; have := HBl.out; omega))
          have x9 : w9.cell? ⟨X, 9, none⟩ = some (.slice tp k tc) := by simp [World.cell?, HX9.out]
          have z9 : w9.frozen? ⟨X, 9, none⟩ = false := by simp [World.frozen?, HX9.out]
          have hl9 := lt_of_block HX9.out
          have HO9 := hide hown
          clear hown hgrow hnb
          refine hK.out _ _ (HS9.out) (fun hHeld => ?_)
          clear hK K
          try simp only [Act.put]
          try simp only [List.getElem_toArray]
          try simp only [List.getElem_cons_succ]
          try simp only [List.getElem_cons_zero]
          try simp only [List.setIfInBounds_toArray]
          try simp only [List.set_cons_succ, List.set_cons_zero]
          refine wpAnyH_take (i := 7) (v := .pointer (some ⟨X, 9, none⟩)) rfl (by kernel_rfl) (by kernel_rfl) (by kernel_rfl) (fun _ _ _ h => h) (Or.inl ⟨by kernel_rfl, fun w1 hSw => by clear hHeld; have k0 := HCe.out _ hSw; go_simp⟩) hHeld ?_
          try simp only [Act.put]
          try simp only [List.getElem_toArray]
          try simp only [List.getElem_cons_succ]
          try simp only [List.getElem_cons_zero]
          try simp only [List.setIfInBounds_toArray]
          try simp only [List.set_cons_succ, List.set_cons_zero]
          refine wpAnyH_ready (rs := [8]) (by kernel_rfl) (by simp) ?_
          refine AllReadyH.cons rfl (fun K hK => ?_) AllReadyH.nil
          go_simp
          refine hK.out _ _ (HS9.out.set (X := X) 9 _ HXs.out) (fun hHeld => ?_)
          clear hK K
          try simp only [Act.put]
          try simp only [List.getElem_toArray]
          try simp only [List.getElem_cons_succ]
          try simp only [List.getElem_cons_zero]
          try simp only [List.setIfInBounds_toArray]
          try simp only [List.set_cons_succ, List.set_cons_zero]
          refine wpAnyH_done (by kernel_rfl) ?_ _
          clear hHeld
          have HXf : Hid ((w9.setCell ⟨X, 9, none⟩ (.slice p9 (k + 1) c9)).heap[X]? = some (.cells #[.int .i64 r.job, .int .i64 r.st, .int .i64 r.att, .int .i64 r.bdg, .int .i64 r.node, .int .i64 r.life, .int .i64 r.code, .int .u64 r.bits, .string pr, .slice p9 (k + 1) c9] 84 (0, 0))) := hide (by rw [cells_set HX9.out]; rfl)
          have HSf := hide (HS9.out.set (X := X) 9 (.slice p9 (k + 1) c9) HXs.out)
          have HRf := hide (HR9.out.set (X := X) 9 (.slice p9 (k + 1) c9) (by have := HXs.out; have := HBl.out; omega))
          have HOf : Hid ((w9.setCell ⟨X, 9, none⟩ (.slice p9 (k + 1) c9)).ownsRow w.heap.size 9 1 (.slice p9 (k + 1) c9) (k + 1) (tcs (lg.take (k + 1)))) := hide (by rw [HTk.out]; exact own_keep HO9.out fun g hg2 => Below.heap_setCell _ ⟨X, 9, none⟩ _ g (fun e => own_ty HO9.out HX9.out (by decide) (by rw [show X = g from e.symm]; exact hg2)))
          clear HX9 HS9 HR9 HO9
          go_wp2_with fail
          go_roundw
          case rel => exact ⟨k + 1, _, _, by go_num, by omega, HXf, HOf, HRf, HSf⟩
          case measure => simp only [intOf]; omega
        · go_simp
          refine (HNt.out _ HR.out.drew).mono ?_
          rintro e V ⟨rfl, hx, hg⟩
          have HR1 := hide hx
          have HS1 := hide (hHeld.call hg HBl.out)
          have HX1 : Hid (V.heap[X]? = some (.cells #[.int .i64 r.job, .int .i64 r.st, .int .i64 r.att, .int .i64 r.bdg, .int .i64 r.node, .int .i64 r.life, .int .i64 r.code, .int .u64 r.bits, .string pr, .slice tp k tc] 84 (0, 0))) := hide ((hg.block X hXl (fun e => by have := HXs.out; have := HBl.out; injection e; omega)).trans HX.out)
          have HO1 : Hid (V.ownsRow w.heap.size 9 1 (.slice tp k tc) k (tcs (lg.take k))) := hide (own_keep HO.out fun g hg2 => hg.block g (HO.out.lt g hg2).2 (fun e => by have := (HO.out.lt g hg2).1; have := HBl.out; injection e; omega))
          have x1 : V.cell? ⟨X, 9, none⟩ = some (.slice tp k tc) := by simp [World.cell?, HX1.out]
          clear hx hg
          refine hK.out _ _ (HS1.out) (fun hHeld => ?_)
          clear hK K
          try simp only [Act.put]
          try simp only [List.getElem_toArray]
          try simp only [List.getElem_cons_succ]
          try simp only [List.getElem_cons_zero]
          try simp only [List.setIfInBounds_toArray]
          try simp only [List.set_cons_succ, List.set_cons_zero]
          refine wpAnyH_ready (rs := [1, 5]) (by kernel_rfl) (by simp) ?_
          refine AllReadyH.cons rfl (fun K hK => ?_) (AllReadyH.cons rfl (fun K hK => ?_) AllReadyH.nil)
          · go_simp
            refine hK.out _ _ (hHeld) (fun hHeld => ?_)
            clear hK K
            try simp only [Act.put]
            try simp only [List.getElem_toArray]
            try simp only [List.getElem_cons_succ]
            try simp only [List.getElem_cons_zero]
            try simp only [List.setIfInBounds_toArray]
            try simp only [List.set_cons_succ, List.set_cons_zero]
            refine wpAnyH_ready (rs := [5]) (by kernel_rfl) (by simp) ?_
            refine AllReadyH.cons rfl (fun K hK => ?_) AllReadyH.nil
            go_simp
            have HS2 := hide (HS1.out.below (below_alloc V (.cells #[.string T] 9)))
            have HR2 := hide (HR1.out.below (below_alloc V (.cells #[.string T] 9)))
            have HX2 : Hid ((V.alloc (.cells #[.string T] 9)).heap[X]? = some (.cells #[.int .i64 r.job, .int .i64 r.st, .int .i64 r.att, .int .i64 r.bdg, .int .i64 r.node, .int .i64 r.life, .int .i64 r.code, .int .u64 r.bits, .string pr, .slice tp k tc] 84 (0, 0))) := hide (((below_alloc V (.cells #[.string T] 9)).block _ (lt_of_block HX1.out)).trans HX1.out)
            have HO2 : Hid ((V.alloc (.cells #[.string T] 9)).ownsRow w.heap.size 9 1 (.slice tp k tc) k (tcs (lg.take k))) := hide (own_keep HO1.out fun g hg2 => (below_alloc V (.cells #[.string T] 9)).block g (HO1.out.lt g hg2).2)
            have hnew : (V.alloc (.cells #[.string T] 9)).heap[V.heap.size]? = some (.cells #[.string T] 9 (0, 0)) := heap_alloc_new V _
            have x2 : (V.alloc (.cells #[.string T] 9)).cell? ⟨X, 9, none⟩ = some (.slice tp k tc) := Lib.cell?_alloc_some _ x1
            refine hK.out _ _ (HS2.out) (fun hHeld => ?_)
            clear hK K
            try simp only [Act.put]
            try simp only [List.getElem_toArray]
            try simp only [List.getElem_cons_succ]
            try simp only [List.getElem_cons_zero]
            try simp only [List.setIfInBounds_toArray]
            try simp only [List.set_cons_succ, List.set_cons_zero]
            refine wpAnyH_ready (rs := [6]) (by kernel_rfl) (by simp) ?_
            refine AllReadyH.cons rfl (fun K hK => ?_) AllReadyH.nil
            rw [if_pos (by kernel_rfl)]
            refine wp_append_own _ _ _ 52 rfl w.heap.size 9 iS _ 1 16 Tryz.underlying52 hiS zS0 zS1 zS2 rfl (by decide) (.slice tp k tc) k (tcs (lg.take k)) (by rfl) HO2.out ⟨V.heap.size, 0, none⟩ 1 1 [.string T] (by rfl) rfl (fun j u hu => by rw [Addr.add_lit, Nat.zero_add]; simp only [World.cell?, hnew]; simpa using hu) (by intro u hu; simp only [List.mem_cons, List.not_mem_nil, or_false] at hu; rw [hu]; rfl) (by unfold maxLen; omega) (by omega) (by rw [World.size_alloc]; have := HS1.out.sz; omega) ?_
            intro v9 w9 hown hgrow _
            obtain ⟨p9, c9, rfl⟩ := own_slice hown
            have hnb : ∀ g (t : TypeId) cs, t ≠ 9 → (V.alloc (.cells #[.string T] 9)).heap[g]? = some (Obj.cells cs t (0, 0)) → w9.heap[g]? = some (Obj.cells cs t (0, 0)) := fun g t cs ht h => (hgrow.block g (lt_of_block h) (fun e => own_ty HO2.out h ht e.symm)).trans h
            have HS9 : Hid (Sr w B (.cells #[.int .i64 0, .int .i64 0, .int .i64 0, .int .i64 0, .int .i64 0, .int .i64 0, .int .i64 0, .int .u64 0, .string ⟨#[]⟩, .slice none 0 0] 84) w9) := hide ⟨sr_grown HS2.out.g hgrow (fun g hg2 => (HO2.out.lt g hg2).1), hnb _ _ _ (by decide) HS2.out.k, hnb _ _ _ (by decide) HS2.out.r⟩
            have HX9 : Hid (w9.heap[X]? = some (.cells #[.int .i64 r.job, .int .i64 r.st, .int .i64 r.att, .int .i64 r.bdg, .int .i64 r.node, .int .i64 r.life, .int .i64 r.code, .int .u64 r.bits, .string pr, .slice tp k tc] 84 (0, 0))) := hide (hnb _ _ _ (by decide) HX2.out)
            have HR9 : Hid (Rx B b _ w9) := hide (HR2.out.grown hgrow (fun e => by have := (HO2.out.lt B e.symm).1; have := HBl.out; omega))
            have x9 : w9.cell? ⟨X, 9, none⟩ = some (.slice tp k tc) := by simp [World.cell?, HX9.out]
            have z9 : w9.frozen? ⟨X, 9, none⟩ = false := by simp [World.frozen?, HX9.out]
            have hl9 := lt_of_block HX9.out
            have HO9 := hide hown
            clear hown hgrow hnb
            refine hK.out _ _ (HS9.out) (fun hHeld => ?_)
            clear hK K
            try simp only [Act.put]
            try simp only [List.getElem_toArray]
            try simp only [List.getElem_cons_succ]
            try simp only [List.getElem_cons_zero]
            try simp only [List.setIfInBounds_toArray]
            try simp only [List.set_cons_succ, List.set_cons_zero]
            refine wpAnyH_take (i := 7) (v := .pointer (some ⟨X, 9, none⟩)) rfl (by kernel_rfl) (by kernel_rfl) (by kernel_rfl) (fun _ _ _ h => h) (Or.inl ⟨by kernel_rfl, fun w1 hSw => by clear hHeld; have k0 := HCe.out _ hSw; go_simp⟩) hHeld ?_
            try simp only [Act.put]
            try simp only [List.getElem_toArray]
            try simp only [List.getElem_cons_succ]
            try simp only [List.getElem_cons_zero]
            try simp only [List.setIfInBounds_toArray]
            try simp only [List.set_cons_succ, List.set_cons_zero]
            refine wpAnyH_ready (rs := [8]) (by kernel_rfl) (by simp) ?_
            refine AllReadyH.cons rfl (fun K hK => ?_) AllReadyH.nil
            go_simp
            refine hK.out _ _ (HS9.out.set (X := X) 9 _ HXs.out) (fun hHeld => ?_)
            clear hK K
            try simp only [Act.put]
            try simp only [List.getElem_toArray]
            try simp only [List.getElem_cons_succ]
            try simp only [List.getElem_cons_zero]
            try simp only [List.setIfInBounds_toArray]
            try simp only [List.set_cons_succ, List.set_cons_zero]
            refine wpAnyH_done (by kernel_rfl) ?_ _
            clear hHeld
            have HXf : Hid ((w9.setCell ⟨X, 9, none⟩ (.slice p9 (k + 1) c9)).heap[X]? = some (.cells #[.int .i64 r.job, .int .i64 r.st, .int .i64 r.att, .int .i64 r.bdg, .int .i64 r.node, .int .i64 r.life, .int .i64 r.code, .int .u64 r.bits, .string pr, .slice p9 (k + 1) c9] 84 (0, 0))) := hide (by rw [cells_set HX9.out]; rfl)
            have HSf := hide (HS9.out.set (X := X) 9 (.slice p9 (k + 1) c9) HXs.out)
            have HRf := hide (HR9.out.set (X := X) 9 (.slice p9 (k + 1) c9) (by have := HXs.out; have := HBl.out; omega))
            have HOf : Hid ((w9.setCell ⟨X, 9, none⟩ (.slice p9 (k + 1) c9)).ownsRow w.heap.size 9 1 (.slice p9 (k + 1) c9) (k + 1) (tcs (lg.take (k + 1)))) := hide (by rw [HTk.out]; exact own_keep HO9.out fun g hg2 => Below.heap_setCell _ ⟨X, 9, none⟩ _ g (fun e => own_ty HO9.out HX9.out (by decide) (by rw [show X = g from e.symm]; exact hg2)))
            clear HX9 HS9 HR9 HO9
            go_wp2_with fail
            go_roundw
            case rel => exact ⟨k + 1, _, _, by go_num, by omega, HXf, HOf, HRf, HSf⟩
            case measure => simp only [intOf]; omega
          · go_simp
            have HS2 := hide (HS1.out.below (below_alloc V (.cells #[.string T] 9)))
            have HR2 := hide (HR1.out.below (below_alloc V (.cells #[.string T] 9)))
            have HX2 : Hid ((V.alloc (.cells #[.string T] 9)).heap[X]? = some (.cells #[.int .i64 r.job, .int .i64 r.st, .int .i64 r.att, .int .i64 r.bdg, .int .i64 r.node, .int .i64 r.life, .int .i64 r.code, .int .u64 r.bits, .string pr, .slice tp k tc] 84 (0, 0))) := hide (((below_alloc V (.cells #[.string T] 9)).block _ (lt_of_block HX1.out)).trans HX1.out)
            have HO2 : Hid ((V.alloc (.cells #[.string T] 9)).ownsRow w.heap.size 9 1 (.slice tp k tc) k (tcs (lg.take k))) := hide (own_keep HO1.out fun g hg2 => (below_alloc V (.cells #[.string T] 9)).block g (HO1.out.lt g hg2).2)
            have hnew : (V.alloc (.cells #[.string T] 9)).heap[V.heap.size]? = some (.cells #[.string T] 9 (0, 0)) := heap_alloc_new V _
            have x2 : (V.alloc (.cells #[.string T] 9)).cell? ⟨X, 9, none⟩ = some (.slice tp k tc) := Lib.cell?_alloc_some _ x1
            refine hK.out _ _ (HS2.out) (fun hHeld => ?_)
            clear hK K
            try simp only [Act.put]
            try simp only [List.getElem_toArray]
            try simp only [List.getElem_cons_succ]
            try simp only [List.getElem_cons_zero]
            try simp only [List.setIfInBounds_toArray]
            try simp only [List.set_cons_succ, List.set_cons_zero]
            refine wpAnyH_ready (rs := [1]) (by kernel_rfl) (by simp) ?_
            refine AllReadyH.cons rfl (fun K hK => ?_) AllReadyH.nil
            go_simp
            refine hK.out _ _ (hHeld) (fun hHeld => ?_)
            clear hK K
            try simp only [Act.put]
            try simp only [List.getElem_toArray]
            try simp only [List.getElem_cons_succ]
            try simp only [List.getElem_cons_zero]
            try simp only [List.setIfInBounds_toArray]
            try simp only [List.set_cons_succ, List.set_cons_zero]
            refine wpAnyH_ready (rs := [6]) (by kernel_rfl) (by simp) ?_
            refine AllReadyH.cons rfl (fun K hK => ?_) AllReadyH.nil
            rw [if_pos (by kernel_rfl)]
            refine wp_append_own _ _ _ 52 rfl w.heap.size 9 iS _ 1 16 Tryz.underlying52 hiS zS0 zS1 zS2 rfl (by decide) (.slice tp k tc) k (tcs (lg.take k)) (by rfl) HO2.out ⟨V.heap.size, 0, none⟩ 1 1 [.string T] (by rfl) rfl (fun j u hu => by rw [Addr.add_lit, Nat.zero_add]; simp only [World.cell?, hnew]; simpa using hu) (by intro u hu; simp only [List.mem_cons, List.not_mem_nil, or_false] at hu; rw [hu]; rfl) (by unfold maxLen; omega) (by omega) (by rw [World.size_alloc]; have := HS1.out.sz; omega) ?_
            intro v9 w9 hown hgrow _
            obtain ⟨p9, c9, rfl⟩ := own_slice hown
            have hnb : ∀ g (t : TypeId) cs, t ≠ 9 → (V.alloc (.cells #[.string T] 9)).heap[g]? = some (Obj.cells cs t (0, 0)) → w9.heap[g]? = some (Obj.cells cs t (0, 0)) := fun g t cs ht h => (hgrow.block g (lt_of_block h) (fun e => own_ty HO2.out h ht e.symm)).trans h
            have HS9 : Hid (Sr w B (.cells #[.int .i64 0, .int .i64 0, .int .i64 0, .int .i64 0, .int .i64 0, .int .i64 0, .int .i64 0, .int .u64 0, .string ⟨#[]⟩, .slice none 0 0] 84) w9) := hide ⟨sr_grown HS2.out.g hgrow (fun g hg2 => (HO2.out.lt g hg2).1), hnb _ _ _ (by decide) HS2.out.k, hnb _ _ _ (by decide) HS2.out.r⟩
            have HX9 : Hid (w9.heap[X]? = some (.cells #[.int .i64 r.job, .int .i64 r.st, .int .i64 r.att, .int .i64 r.bdg, .int .i64 r.node, .int .i64 r.life, .int .i64 r.code, .int .u64 r.bits, .string pr, .slice tp k tc] 84 (0, 0))) := hide (hnb _ _ _ (by decide) HX2.out)
            have HR9 : Hid (Rx B b _ w9) := hide (HR2.out.grown hgrow (fun e => by have := (HO2.out.lt B e.symm).1; have := HBl.out; omega))
            have x9 : w9.cell? ⟨X, 9, none⟩ = some (.slice tp k tc) := by simp [World.cell?, HX9.out]
            have z9 : w9.frozen? ⟨X, 9, none⟩ = false := by simp [World.frozen?, HX9.out]
            have hl9 := lt_of_block HX9.out
            have HO9 := hide hown
            clear hown hgrow hnb
            refine hK.out _ _ (HS9.out) (fun hHeld => ?_)
            clear hK K
            try simp only [Act.put]
            try simp only [List.getElem_toArray]
            try simp only [List.getElem_cons_succ]
            try simp only [List.getElem_cons_zero]
            try simp only [List.setIfInBounds_toArray]
            try simp only [List.set_cons_succ, List.set_cons_zero]
            refine wpAnyH_take (i := 7) (v := .pointer (some ⟨X, 9, none⟩)) rfl (by kernel_rfl) (by kernel_rfl) (by kernel_rfl) (fun _ _ _ h => h) (Or.inl ⟨by kernel_rfl, fun w1 hSw => by clear hHeld; have k0 := HCe.out _ hSw; go_simp⟩) hHeld ?_
            try simp only [Act.put]
            try simp only [List.getElem_toArray]
            try simp only [List.getElem_cons_succ]
            try simp only [List.getElem_cons_zero]
            try simp only [List.setIfInBounds_toArray]
            try simp only [List.set_cons_succ, List.set_cons_zero]
            refine wpAnyH_ready (rs := [8]) (by kernel_rfl) (by simp) ?_
            refine AllReadyH.cons rfl (fun K hK => ?_) AllReadyH.nil
            go_simp
            refine hK.out _ _ (HS9.out.set (X := X) 9 _ HXs.out) (fun hHeld => ?_)
            clear hK K
            try simp only [Act.put]
            try simp only [List.getElem_toArray]
            try simp only [List.getElem_cons_succ]
            try simp only [List.getElem_cons_zero]
            try simp only [List.setIfInBounds_toArray]
            try simp only [List.set_cons_succ, List.set_cons_zero]
            refine wpAnyH_done (by kernel_rfl) ?_ _
            clear hHeld
            have HXf : Hid ((w9.setCell ⟨X, 9, none⟩ (.slice p9 (k + 1) c9)).heap[X]? = some (.cells #[.int .i64 r.job, .int .i64 r.st, .int .i64 r.att, .int .i64 r.bdg, .int .i64 r.node, .int .i64 r.life, .int .i64 r.code, .int .u64 r.bits, .string pr, .slice p9 (k + 1) c9] 84 (0, 0))) := hide (by rw [cells_set HX9.out]; rfl)
            have HSf := hide (HS9.out.set (X := X) 9 (.slice p9 (k + 1) c9) HXs.out)
            have HRf := hide (HR9.out.set (X := X) 9 (.slice p9 (k + 1) c9) (by have := HXs.out; have := HBl.out; omega))
            have HOf : Hid ((w9.setCell ⟨X, 9, none⟩ (.slice p9 (k + 1) c9)).ownsRow w.heap.size 9 1 (.slice p9 (k + 1) c9) (k + 1) (tcs (lg.take (k + 1)))) := hide (by rw [HTk.out]; exact own_keep HO9.out fun g hg2 => Below.heap_setCell _ ⟨X, 9, none⟩ _ g (fun e => own_ty HO9.out HX9.out (by decide) (by rw [show X = g from e.symm]; exact hg2)))
            clear HX9 HS9 HR9 HO9
            go_wp2_with fail
            go_roundw
            case rel => exact ⟨k + 1, _, _, by go_num, by omega, HXf, HOf, HRf, HSf⟩
            case measure => simp only [intOf]; omega
      · obtain rfl : k = lg.length := by omega
        have hki : ¬ ((lg.length : Int) < (lg.length : Int)) := by omega
        obtain ⟨d0, d1, d2, d3, d4, d5, d6, d7, d8, d9, z0, z1, z2, z3, z4, z5, z6, z7, z8, z9⟩ := pl_of HX.out
        obtain ⟨e0, e1, e2, e3, e4, e5, e6, e7, e8, e9, y0, y1, y2, y3, y4, y5, y6, y7, y8, y9⟩ := pl_of HS.out.r
        have hyl := lt_of_block HS.out.r
        have HF := hide (pl_set HS.out.r (.int .i64 r.job) (.int .i64 r.st) (.int .i64 r.att) (.int .i64 r.bdg) (.int .i64 r.node) (.int .i64 r.life) (.int .i64 r.code) (.int .u64 r.bits) (.string pr) (.slice tp lg.length tc))
        have HRF : Hid (Rx B b more ((((((((((wr.setCell ⟨w.heap.size + 1, 0, none⟩ (.int .i64 r.job)).setCell ⟨w.heap.size + 1, 1, none⟩ (.int .i64 r.st)).setCell ⟨w.heap.size + 1, 2, none⟩ (.int .i64 r.att)).setCell ⟨w.heap.size + 1, 3, none⟩ (.int .i64 r.bdg)).setCell ⟨w.heap.size + 1, 4, none⟩ (.int .i64 r.node)).setCell ⟨w.heap.size + 1, 5, none⟩ (.int .i64 r.life)).setCell ⟨w.heap.size + 1, 6, none⟩ (.int .i64 r.code)).setCell ⟨w.heap.size + 1, 7, none⟩ (.int .u64 r.bits)).setCell ⟨w.heap.size + 1, 8, none⟩ (.string pr)).setCell ⟨w.heap.size + 1, 9, none⟩ (.slice tp lg.length tc))) := hide ((show Rx B b more wr from by have := HR.out; rw [List.drop_length] at this; exact this).set10 (by have := HBl.out; omega) (.int .i64 r.job) (.int .i64 r.st) (.int .i64 r.att) (.int .i64 r.bdg) (.int .i64 r.node) (.int .i64 r.life) (.int .i64 r.code) (.int .u64 r.bits) (.string pr) (.slice tp lg.length tc))
        have hw1 : w.heap.size ≤ w.heap.size + 1 := Nat.le_succ _
        have HGF : Hid (w.grownBy ((((((((((wr.setCell ⟨w.heap.size + 1, 0, none⟩ (.int .i64 r.job)).setCell ⟨w.heap.size + 1, 1, none⟩ (.int .i64 r.st)).setCell ⟨w.heap.size + 1, 2, none⟩ (.int .i64 r.att)).setCell ⟨w.heap.size + 1, 3, none⟩ (.int .i64 r.bdg)).setCell ⟨w.heap.size + 1, 4, none⟩ (.int .i64 r.node)).setCell ⟨w.heap.size + 1, 5, none⟩ (.int .i64 r.life)).setCell ⟨w.heap.size + 1, 6, none⟩ (.int .i64 r.code)).setCell ⟨w.heap.size + 1, 7, none⟩ (.int .u64 r.bits)).setCell ⟨w.heap.size + 1, 8, none⟩ (.string pr)).setCell ⟨w.heap.size + 1, 9, none⟩ (.slice tp lg.length tc)) (some B)) := hide (gset (gset (gset (gset (gset (gset (gset (gset (gset (gset HS.out.g 0 _ hw1) 1 _ hw1) 2 _ hw1) 3 _ hw1) 4 _ hw1) 5 _ hw1) 6 _ hw1) 7 _ hw1) 8 _ hw1) 9 _ hw1)
        have HOF : Hid (World.ownsRow ((((((((((wr.setCell ⟨w.heap.size + 1, 0, none⟩ (.int .i64 r.job)).setCell ⟨w.heap.size + 1, 1, none⟩ (.int .i64 r.st)).setCell ⟨w.heap.size + 1, 2, none⟩ (.int .i64 r.att)).setCell ⟨w.heap.size + 1, 3, none⟩ (.int .i64 r.bdg)).setCell ⟨w.heap.size + 1, 4, none⟩ (.int .i64 r.node)).setCell ⟨w.heap.size + 1, 5, none⟩ (.int .i64 r.life)).setCell ⟨w.heap.size + 1, 6, none⟩ (.int .i64 r.code)).setCell ⟨w.heap.size + 1, 7, none⟩ (.int .u64 r.bits)).setCell ⟨w.heap.size + 1, 8, none⟩ (.string pr)).setCell ⟨w.heap.size + 1, 9, none⟩ (.slice tp lg.length tc)) w.heap.size 9 1 (.slice tp lg.length tc) lg.length (tcs lg)) := hide (by
          have h9 := HO.out
          rw [List.take_length] at h9
          exact own_keep h9 fun g hg2 => pl_other wr (fun e => own_ty h9 HS.out.r (by decide) (by rw [← e]; exact hg2)) _ _ _ _ _ _ _ _ _ _)
        clear HX HO HR HS HNT
        go_wp2_with fail
        refine bodyPost_ret (results_pl rfl _ _ (w.heap.size + 1) _ rfl HF.out rfl) rfl ?_
        exact ⟨_, rfl, HOF.out, HRF.out, HGF.out⟩
end Go.Proofs.YtepondcflkledaaGreat.S
end
