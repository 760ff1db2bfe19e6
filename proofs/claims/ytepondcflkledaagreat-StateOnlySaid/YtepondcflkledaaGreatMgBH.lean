import Derived.Test.YtepondcflkledaaGreatMgBG

section
namespace Go.Proofs.YtepondcflkledaaGreat.S
set_option maxRecDepth 20000
open Go.RowKit
open Rc (Ch)
open Q (Rr rr0 Qm Ft Mv)

theorem rx_jobr {w : World} {B : Nat} {b : ByteArray} {more : List UInt8} {r : Rr} {P : Pp} (hb : b.size ≤ 140737488351232) (h : Rx B b (jb r P ++ more) w) (hz : Gd (r, P)) :
    Calls Tryz.prog 53 #[.agg #[.pointer (some ⟨B, 0, none⟩)], .int .i64 r.job] w fun e w' => ∃ t, e = .returned (.agg (plC r P.pr t)) ∧ w'.ownsRow w.heap.size 9 1 t P.lg.length (tcs P.lg) ∧ Rx B b more w' ∧ w.grownBy w' (some B) := by
  obtain ⟨h0, h1, h2, h3⟩ := hz
  obtain ⟨pr, lg⟩ := P
  obtain ⟨j, x1, x2, x3, x4, x5, x6, x7⟩ := r
  obtain ⟨r1, r2, r3, r4, r5, r6, r7⟩ := h0
  simp only at r1 r2 r3 r4 r5 r6 r7 h1 h2 h3
  obtain ⟨a1, rfl⟩ := Int.eq_ofNat_of_zero_le (show 0 ≤ x1 by omega)
  obtain ⟨a2, rfl⟩ := Int.eq_ofNat_of_zero_le r2.1
  obtain ⟨a3, rfl⟩ := Int.eq_ofNat_of_zero_le r3.1
  obtain ⟨a4, rfl⟩ := Int.eq_ofNat_of_zero_le r4.1
  obtain ⟨a5, rfl⟩ := Int.eq_ofNat_of_zero_le r5.1
  obtain ⟨a6, rfl⟩ := Int.eq_ofNat_of_zero_le r6.1
  obtain ⟨a7, rfl⟩ := Int.eq_ofNat_of_zero_le r7.1
  exact rx_job hb h (by omega) (by omega) h1 h2 h3
/-- what lies about while a view is read: the reader's box at K4, the result's cell -/
structure Sv (w : World) (B K4 : Nat) (w' : World) : Prop where
  b : Below w.heap.size w w'
  k : w'.heap[K4]? = some (.cells #[.pointer (some ⟨B, 0, none⟩)] 120 (0, 0))
  r : w'.heap[w.heap.size]? = some (.cells #[.int .i64 0, .slice none 0 0] 45 (0, 0))
  l : w.heap.size < B ∧ B < K4
section
variable {w w1 w2 : World} {B K4 : Nat}
theorem Sv.sz (h : Sv w B K4 w1) : w.heap.size + 2 ≤ w1.heap.size := by have := lt_of_block h.k; have := h.l; omega
theorem Sv.below (h : Sv w B K4 w1) (hb : Below w1.heap.size w1 w2) : Sv w B K4 w2 :=
  ⟨h.b.trans (hb.mono h.b.size), (hb.block _ (lt_of_block h.k)).trans h.k, (hb.block _ (lt_of_block h.r)).trans h.r, h.l⟩
theorem Sv.drew (h : Sv w B K4 w1) : Sv w B K4 w1.drew := h.below (Below.refl _ _).drew
theorem Sv.call (h : Sv w B K4 w1) (hg : w1.grownBy w2 (some B)) (hB : w.heap.size < B) : Sv w B K4 w2 :=
  ⟨h.b.grown hg h.b.size (fun g hg2 => by injection hg2; omega), (hg.block _ (lt_of_block h.k) (fun e => by have := h.l; injection e; omega)).trans h.k, (hg.block _ (lt_of_block h.r) (fun e => by injection e; omega)).trans h.r, h.l⟩
theorem Sv.set (h : Sv w B K4 w1) {X : Nat} (k : Nat) (u : Value) (hX : K4 < X) : Sv w B K4 (w1.setCell ⟨X, k, none⟩ u) := by
  have hne : ∀ g, g ≠ X → (w1.setCell ⟨X, k, none⟩ u).heap[g]? = w1.heap[g]? := fun g hg => Below.heap_setCell _ ⟨X, k, none⟩ _ g hg
  have hl := h.l
  exact ⟨h.b.setCell (by show w.heap.size ≤ X; omega) _, (hne _ (by omega)).trans h.k, (hne _ (by omega)).trans h.r, h.l⟩
end
theorem Jr.gb {A B : Nat} {w w' : World} {vj : Value} {J : List Jb} (h : Jr A w vj J) (hg : w.grownBy w' (some B)) {cs : Array Value} {t : TypeId} (hB : w.heap[B]? = some (.cells cs t (0, 0)) ∧ t ≠ 84 ∧ t ≠ 9) : Jr A w' vj J :=
  ⟨own_keep h.row fun g hg2 => hg.block g (h.row.lt g hg2).2 (fun e => by injection e with e; exact own_ty h.row hB.1 hB.2.1 (e ▸ hg2)), fun j hj => own_keep (h.lg j hj) fun g hg2 => hg.block g ((h.lg j hj).lt g hg2).2 (fun e => by injection e with e; exact own_ty (h.lg j hj) hB.1 hB.2.2 (e ▸ hg2))⟩
theorem Jr.boxv {A : Nat} {w : World} {vj : Value} {J : List Jb} (h : Jr A w vj J) {X : Nat} {cs : Array Value} (hX : w.heap[X]? = some (.cells cs 45 (0, 0))) (k : Nat) (u : Value) : Jr A (w.setCell ⟨X, k, none⟩ u) vj J := by
  have hne : ∀ g, g ≠ X → (w.setCell ⟨X, k, none⟩ u).heap[g]? = w.heap[g]? := fun g hg => Below.heap_setCell _ ⟨X, k, none⟩ _ g hg
  exact ⟨own_keep h.row fun g hg => hne g fun e => own_ty h.row hX (by decide) (e ▸ hg), fun j hj => own_keep (h.lg j hj) fun g hg => hne g fun e => own_ty (h.lg j hj) hX (by decide) (e ▸ hg)⟩
theorem jps_len (s : Sx) : (jps s).length = s.L.length := by simp [jps]
theorem jps_drop {s : Sx} {k : Nat} (h : k < s.L.length) : ((jps s).drop k).flatMap (fun x => jb x.1 x.2) = jb (s.L.getD k rr0) (s.pa k) ++ ((jps s).drop (k + 1)).flatMap fun x => jb x.1 x.2 := by
  have h2 : k < (jps s).length := by rw [jps_len]; exact h
  rw [List.drop_eq_getElem_cons h2, List.flatMap_cons]
  simp [jps]
set_option maxHeartbeats 2000000 in
set_option maxRecDepth 20000 in
theorem rd_read {w : World} {m : Int} {s : Sx} (hW : Wf m s) :
    Calls Tryz.prog 25 #[.string ⟨(bys s).toArray⟩] w fun e w' => ∃ vj J, e = .returned (.tuple #[.agg #[.int .i64 s.res, vj], .bool true]) ∧ Jr w.heap.size w' vj J ∧ J.length = s.L.length ∧ Jv s J s.L.length ∧ Below w.heap.size w w' := by
  obtain ⟨iP, hiP, zP0, zP1, zP2⟩ := info_parts Tryz.infoPl
  have hlen := bys_len hW
  obtain ⟨b, hbE⟩ : ∃ b : ByteArray, (⟨(bys s).toArray⟩ : ByteArray) = b := ⟨_, rfl⟩
  have hbd : b.data.toList = bys s := by rw [← hbE]
  have hbs : b.size = (bys s).length := by rw [← hbE]; simp [ByteArray.size]
  rw [hbE]
  have hb : b.size ≤ 140737488351232 := by omega
  obtain ⟨rn, hrn⟩ := Int.eq_ofNat_of_zero_le hW.r0
  have hr1 := hW.r1
  have hl8 := hW.ok.len
  have hE : bys s = Pk.enc rn ++ (Pk.enc s.L.length ++ ((jps s).drop 0).flatMap fun x => jb x.1 x.2) := by
    unfold bys
    rw [sbs_jps, hrn, List.drop_zero]
    simp [encs]
  have HE := hide hE
  have HNn : Hid (∀ V B, Rx B b (Pk.enc rn ++ (Pk.enc s.L.length ++ ((jps s).drop 0).flatMap fun x => jb x.1 x.2)) V → Calls Tryz.prog 51 #[.agg #[.pointer (some ⟨B, 0, none⟩)]] V fun e w' => e = .returned (.int .i64 (rn : Int)) ∧ Rx B b (Pk.enc s.L.length ++ ((jps s).drop 0).flatMap fun x => jb x.1 x.2) w' ∧ V.grownBy w' (some B)) := hide fun V B hV => rx_num hb hV (by omega)
  have HNl : Hid (∀ V B, Rx B b (Pk.enc s.L.length ++ ((jps s).drop 0).flatMap fun x => jb x.1 x.2) V → Calls Tryz.prog 52 #[.pointer (some ⟨B, 0, none⟩), .int .i64 8] V fun e w' => e = .returned (.int .i64 (s.L.length : Int)) ∧ Rx B b (((jps s).drop 0).flatMap fun x => jb x.1 x.2) w' ∧ V.grownBy w' (some B)) := hide fun V B hV => rx_list (M := 8) hb hV hl8 (by decide)
  have HNJ : Hid (∀ k, k < s.L.length → ∀ V B more, Rx B b (jb (s.L.getD k rr0) (s.pa k) ++ more) V → Calls Tryz.prog 53 #[.agg #[.pointer (some ⟨B, 0, none⟩)], .int .i64 (s.L.getD k rr0).job] V fun e w' => ∃ t, e = .returned (.agg (plC (s.L.getD k rr0) (s.pa k).pr t)) ∧ w'.ownsRow V.heap.size 9 1 t (s.pa k).lg.length (tcs (s.pa k).lg) ∧ Rx B b more w' ∧ V.grownBy w' (some B)) := hide fun k hk V B more hV => rx_jobr hb hV (jps_good hW _ (List.mem_map.2 ⟨k, List.mem_range.2 hk, rfl⟩))
  have HJb : Hid (∀ k, k < s.L.length → (s.L.getD k rr0).job = (k : Int) + 1) := hide fun k hk => by rw [List.getD_eq_getElem?_getD, List.getElem?_eq_getElem hk]; exact hW.ok.job k hk
  have HRs := hide hrn
  have HRd := hide (read_any b (w.alloc (.cells #[.int .i64 0, .slice none 0 0] 45)))
  have HEn : Hid (∀ V B, Rx B b [] V → Calls Tryz.prog 54 #[.pointer (some ⟨B, 0, none⟩)] V fun e w' => e = .returned (.tuple #[.int .i64 0, .int .i64 0]) ∧ ∃ n, w' = V.drewN n) := hide fun V B hV => by
    obtain ⟨p, h1, h2, h3⟩ := hV.ex
    have hp : b.size ≤ p := by
      have := congrArg List.length h3
      simp [rest] at this
      omega
    have h4 := end_any h1 (by omega) (by omega) hb
    have e1 : endE b (p : Int) 0 = 0 := by unfold endE; rw [if_neg (fun x => by omega)]
    have e2 : endP b (p : Int) 0 = 0 := by unfold endP; rw [if_pos ⟨rfl, by omega⟩]
    rw [e1, e2] at h4
    exact h4
  have HD0 : Hid (rest b 0 = Pk.enc rn ++ (Pk.enc s.L.length ++ ((jps s).drop 0).flatMap fun x => jb x.1 x.2)) := hide (by rw [← hE, ← hbd]; simp [rest])
  have hs0 := World.size_alloc w (.cells #[.int .i64 0, .slice none 0 0] 45)
  have hn0 := heap_alloc_new w (.cells #[.int .i64 0, .slice none 0 0] 45)
  have HB0 := hide (below_alloc w (.cells #[.int .i64 0, .slice none 0 0] 45))
  have HN0 := hide hn0
  clear hE hbE hbd hbs hlen hr1 hW hn0 hb hrn
  go_enter Tryz.func25, Tryz.ntmps25
  go_wp2_with fail
  refine HRd.out.mono ?_
  rintro e w1 ⟨rfl, hR1, hb1⟩
  rw [hs0] at hR1 ⊢
  have hb1' : Below w.heap.size w w1 := HB0.out.trans (hb1.mono (by omega))
  have hr1 := (hb1.block w.heap.size (by omega)).trans HN0.out
  obtain ⟨B, hBE⟩ : ∃ B, w.heap.size + 1 = B := ⟨_, rfl⟩
  rw [hBE] at hR1 ⊢
  have hBl := hR1.lt
  have hbk := below_alloc w1 (.cells #[.pointer (some ⟨B, 0, none⟩)] 120)
  have hnk := heap_alloc_new w1 (.cells #[.pointer (some ⟨B, 0, none⟩)] 120)
  obtain ⟨K4, hK4⟩ : ∃ K4, w1.heap.size = K4 := ⟨_, rfl⟩
  rw [hK4] at hnk
  have HS1 : Hid (Sv w B K4 (w1.alloc (.cells #[.pointer (some ⟨B, 0, none⟩)] 120))) := hide ⟨hb1'.trans (hbk.mono hb1'.size), hnk, (hbk.block _ (by omega)).trans hr1, ⟨by omega, by omega⟩⟩
  have HR1 : Hid (Rx B b _ (w1.alloc (.cells #[.pointer (some ⟨B, 0, none⟩)] 120))) := hide (Rx.below ⟨0, hR1, Nat.zero_le _, HD0.out⟩ hbk)
  have HBs : Hid (w.heap.size < B) := hide (by omega)
  have k1 : (w1.alloc (.cells #[.pointer (some ⟨B, 0, none⟩)] 120)).cell? ⟨K4, 0, none⟩ = some (.pointer (some ⟨B, 0, none⟩)) := by simp [World.cell?, HS1.out.k]
  clear hR1 hb1 hb1' hr1 hbk hnk HRd HB0 HN0 HD0 hBE
  go_upto_region 2 with fail
  try rw [hK4]
  clear hK4
  generalize w1.alloc _ = W1 at *
  have HL := hide (HNn.out _ _ HR1.out)
  go_wp2_with fail
  refine HL.out.mono ?_
  rintro e w2 ⟨rfl, hx, hg⟩
  rw [← HRs.out]
  have hS2 := HS1.out.call hg HBs.out
  obtain ⟨X, hXE⟩ : ∃ X, w2.heap.size = X := ⟨_, rfl⟩
  have hbx := below_alloc w2 (.cells #[.int .i64 s.res, .slice none 0 0] 45)
  have hnx := heap_alloc_new w2 (.cells #[.int .i64 s.res, .slice none 0 0] 45)
  rw [hXE] at hnx
  have HX2 := hide hnx
  have HS2 := hide (hS2.below hbx)
  have HR2 := hide (hx.below hbx)
  have HXs : Hid (K4 < X) := hide (by have := lt_of_block hS2.k; omega)
  have HXB : Hid (X ≠ B) := hide (by have := lt_of_block hS2.k; have := hS2.l; omega)
  clear hx hg hS2 hbx hnx HL HS1 HR1 HNn k1
  go_upto_region 3 with fail
  try rw [hXE]
  clear hXE
  generalize w2.alloc _ = W2 at *
  have k2 : W2.cell? ⟨K4, 0, none⟩ = some (.pointer (some ⟨B, 0, none⟩)) := by simp [World.cell?, HS2.out.k]
  have HL := hide (HNl.out _ _ HR2.out)
  go_wp2_with fail
  refine HL.out.mono ?_
  rintro e w3 ⟨rfl, hx, hg⟩
  have HR3 := hide hx
  have HS3 := hide (HS2.out.call hg HBs.out)
  have HX3 : Hid (w3.heap[X]? = some (.cells #[.int .i64 s.res, .slice none 0 0] 45 (0, 0))) := hide ((hg.block X (lt_of_block HX2.out) (fun e => by injection e with e; exact HXB.out e)).trans HX2.out)
  clear hx hg HL HR2 HS2 HX2 HNl k2
  obtain ⟨n, hn⟩ : ∃ n, s.L.length = n := ⟨_, rfl⟩
  have HNn := hide hn
  rw [hn] at hl8 ⊢
  clear hn
  go_wp2_with fail
  go_loopw [18] (fun u wr => ∃ (k : Nat) (pj : Option Addr) (cj : Nat) (J : List Jb), u = .int .i64 (k : Int) ∧ k ≤ n ∧ J.length = k ∧ Hid (wr.heap[X]? = some (.cells #[.int .i64 s.res, .slice pj k cj] 45 (0, 0))) ∧ Hid (Jr w.heap.size wr (.slice pj k cj) J) ∧ Hid (Jv s J k) ∧ Hid (Rx B b (((jps s).drop k).flatMap fun x => jb x.1 x.2) wr) ∧ Hid (Sv w B K4 wr)) (fun u _ => n - (intOf u).toNat)
  case atStart => exact ⟨0, none, 0, [], rfl, Nat.zero_le _, rfl, HX3, hide ⟨⟨rfl, .inl ⟨rfl, rfl⟩⟩, fun j hj => by cases hj⟩, hide (fun j hj => by omega), HR3, HS3⟩
  case round =>
    clear HX3 HR3 HS3
    obtain ⟨k, pj, cj, J, rfl, hk, hJk, HX, HJ, HV, HR, HS⟩ := hrel
    by_cases hkl : k < n
    · have hki : (k : Int) < (n : Int) := by omega
      have hkL : k < s.L.length := by rw [HNn.out]; exact hkl
      rw [jps_drop hkL] at HR
      have HNj := hide (HNJ.out k hkL)
      have hjb := HJb.out k hkL
      obtain ⟨r, hrE⟩ : ∃ r, s.L.getD k rr0 = r := ⟨_, rfl⟩
      obtain ⟨P, hpE⟩ : ∃ P, s.pa k = P := ⟨_, rfl⟩
      rw [hrE] at HR HNj hjb
      rw [hpE] at HR HNj
      have HrE := hide hrE
      have HpE := hide hpE
      have hjb2 : (k : Int) + 1 = r.job := hjb.symm
      have hwr : IntKind.i64.wrap r.job = r.job := by rw [IntKind.wrap_i64]; omega
      have HNj : Hid (∀ V, Rx B b (jb r P ++ ((jps s).drop (k + 1)).flatMap fun x => jb x.1 x.2) V → Calls Tryz.prog 53 #[.agg #[.pointer (some ⟨B, 0, none⟩)], .int .i64 r.job] V fun e w' => ∃ t, e = .returned (.agg (plC r P.pr t)) ∧ w'.ownsRow V.heap.size 9 1 t P.lg.length (tcs P.lg) ∧ Rx B b (((jps s).drop (k + 1)).flatMap fun x => jb x.1 x.2) w' ∧ V.grownBy w' (some B)) := hide fun V hV => HNj.out V B _ hV
      have HRT : Hid (∃ cs, wr.heap[B]? = some (.cells cs 150 (0, 0))) := hide (by obtain ⟨q, hq, _⟩ := HR.out.ex; exact ⟨_, hq⟩)
      have HWr : Hid (w.heap.size ≤ wr.heap.size) := hide HS.out.b.size
      have x0 : wr.cell? ⟨X, 1, none⟩ = some (.slice pj k cj) := by simp [World.cell?, HX.out]
      have hXl := lt_of_block HX.out
      have HCe : Hid (∀ w' : World, (fun w' => Sv w B K4 w') w' → w'.cell? ⟨K4, 0, none⟩ = some (.pointer (some ⟨B, 0, none⟩))) := hide fun w' hw => by simp [World.cell?, hw.k]
      clear hrE hpE hjb
      go_upto_region 6 with fail
      refine wp_region_held_drew (S := fun w' => Sv w B K4 w') (by kernel_rfl) (HS.out.drew) (fun hHeld => ?_)
      refine wpAnyH_take (i := 0) (v := .pointer (some ⟨X, 1, none⟩)) rfl (by kernel_rfl) (by kernel_rfl) (by kernel_rfl) (fun _ _ _ h => h) (Or.inl ⟨by kernel_rfl, fun w1 hSw => by clear hHeld; have k0 := HCe.out _ hSw; go_simp⟩) hHeld ?_
      try simp only [Act.put]
      try simp only [List.getElem_toArray]
      try simp only [List.getElem_cons_succ]
      try simp only [List.getElem_cons_zero]
      try simp only [List.setIfInBounds_toArray]
      try simp only [List.set_cons_succ, List.set_cons_zero]
      refine wpAnyH_take (i := 2) (v := .agg #[.pointer (some ⟨B, 0, none⟩)]) rfl (by kernel_rfl) (by kernel_rfl) (by kernel_rfl) (fun _ _ _ h => h) (Or.inl ⟨by kernel_rfl, fun w1 hSw => by clear hHeld; have k0 := HCe.out _ hSw; go_simp⟩) hHeld ?_
      try simp only [Act.put]
      try simp only [List.getElem_toArray]
      try simp only [List.getElem_cons_succ]
      try simp only [List.getElem_cons_zero]
      try simp only [List.setIfInBounds_toArray]
      try simp only [List.set_cons_succ, List.set_cons_zero]
      refine wpAnyH_take (i := 3) (v := .int .i64 (k : Int)) rfl (by kernel_rfl) (by kernel_rfl) (by kernel_rfl) (fun _ _ _ h => h) (Or.inl ⟨by kernel_rfl, fun w1 hSw => by clear hHeld; have k0 := HCe.out _ hSw; go_simp⟩) hHeld ?_
      try simp only [Act.put]
      try simp only [List.getElem_toArray]
      try simp only [List.getElem_cons_succ]
      try simp only [List.getElem_cons_zero]
      try simp only [List.setIfInBounds_toArray]
      try simp only [List.set_cons_succ, List.set_cons_zero]
      refine wpAnyH_take (i := 4) (v := .int .i64 r.job) rfl (by kernel_rfl) (by kernel_rfl) (by kernel_rfl) (fun _ _ _ h => h) (Or.inl ⟨by kernel_rfl, fun w1 hSw => by clear hHeld; have k0 := HCe.out _ hSw; go_simp⟩) hHeld ?_
      try simp only [Act.put]
      try simp only [List.getElem_toArray]
      try simp only [List.getElem_cons_succ]
      try simp only [List.getElem_cons_zero]
      try simp only [List.setIfInBounds_toArray]
      try simp only [List.set_cons_succ, List.set_cons_zero]
      refine wpAnyH_ready (rs := [1, 5]) (by kernel_rfl) (by simp) ?_
      refine AllReadyH.cons rfl (fun K hK => ?_) (AllReadyH.cons rfl (fun K hK => ?_) AllReadyH.nil)
      · go_simp
        refine hK.out _ _ (hHeld) (fun hHeld => ?_)
        clear hK K
        try simp only [Act.put]
        try simp only [List.getElem_toArray]
        try simp only [List.getElem_cons_succ]
        try simp only [List.getElem_cons_zero]
        try simp only [List.setIfInBounds_toArray]
        try simp only [List.set_cons_succ, List.set_cons_zero]
        refine wpAnyH_ready (rs := [5]) (by kernel_rfl) (by simp) ?_
        refine AllReadyH.cons rfl (fun K hK => ?_) AllReadyH.nil
        go_simp
        refine (HNj.out _ HR.out.drew).mono ?_
        rintro e V ⟨t, rfl, ho, hx, hg⟩
        obtain ⟨tp, tc, rfl⟩ := own_slice ho
        have HR1 := hide hx
        have HS1 := hide (hHeld.call hg HBs.out)
        have HX1 : Hid (V.heap[X]? = some (.cells #[.int .i64 s.res, .slice pj k cj] 45 (0, 0))) := hide ((hg.block X hXl (fun e => by injection e with e; exact HXB.out e)).trans HX.out)
        have HJ1 : Hid (Jr w.heap.size V (.slice pj k cj) J) := hide ((jr_drew HJ.out).gb hg ⟨(HRT.out).choose_spec, by decide, by decide⟩)
        have HO1 : Hid (V.ownsRow w.heap.size 9 1 (.slice tp P.lg.length tc) P.lg.length (tcs P.lg)) := hide (own_weak ho HWr.out)
        have x1 : V.cell? ⟨X, 1, none⟩ = some (.slice pj k cj) := by simp [World.cell?, HX1.out]
        clear hx hg ho
        generalize hnl : P.lg.length = nl at *
        simp only [plC]
        refine hK.out _ _ (HS1.out) (fun hHeld => ?_)
        clear hK K
        try simp only [Act.put]
        try simp only [List.getElem_toArray]
        try simp only [List.getElem_cons_succ]
        try simp only [List.getElem_cons_zero]
        try simp only [List.setIfInBounds_toArray]
        try simp only [List.set_cons_succ, List.set_cons_zero]
        refine wpAnyH_ready (rs := [6]) (by kernel_rfl) (by simp) ?_
        refine AllReadyH.cons rfl (fun K hK => ?_) AllReadyH.nil
        go_simp
        have hba := below_alloc V (.cells #[.int .i64 r.job, .int .i64 r.st, .int .i64 r.att, .int .i64 r.bdg, .int .i64 r.node, .int .i64 r.life, .int .i64 r.code, .int .u64 r.bits, .string P.pr, .slice tp nl tc] 84)
        have HS2 := hide (HS1.out.below hba)
        have HR2 := hide (HR1.out.below hba)
        have HX2 : Hid ((V.alloc (.cells #[.int .i64 r.job, .int .i64 r.st, .int .i64 r.att, .int .i64 r.bdg, .int .i64 r.node, .int .i64 r.life, .int .i64 r.code, .int .u64 r.bits, .string P.pr, .slice tp nl tc] 84)).heap[X]? = some (.cells #[.int .i64 s.res, .slice pj k cj] 45 (0, 0))) := hide ((hba.block _ (lt_of_block HX1.out)).trans HX1.out)
        have HJ2 := hide (HJ1.out.below hba)
        have HO2 := hide (own_keep HO1.out fun g hg2 => hba.block g (HO1.out.lt g hg2).2)
        have hnew : (V.alloc (.cells #[.int .i64 r.job, .int .i64 r.st, .int .i64 r.att, .int .i64 r.bdg, .int .i64 r.node, .int .i64 r.life, .int .i64 r.code, .int .u64 r.bits, .string P.pr, .slice tp nl tc] 84)).heap[V.heap.size]? = some (.cells #[.int .i64 r.job, .int .i64 r.st, .int .i64 r.att, .int .i64 r.bdg, .int .i64 r.node, .int .i64 r.life, .int .i64 r.code, .int .u64 r.bits, .string P.pr, .slice tp nl tc] 84 (0, 0)) := heap_alloc_new V _
        have x2 : (V.alloc (.cells #[.int .i64 r.job, .int .i64 r.st, .int .i64 r.att, .int .i64 r.bdg, .int .i64 r.node, .int .i64 r.life, .int .i64 r.code, .int .u64 r.bits, .string P.pr, .slice tp nl tc] 84)).cell? ⟨X, 1, none⟩ = some (.slice pj k cj) := Lib.cell?_alloc_some _ x1
        clear hba
        refine hK.out _ _ (HS2.out) (fun hHeld => ?_)
        clear hK K
        try simp only [Act.put]
        try simp only [List.getElem_toArray]
        try simp only [List.getElem_cons_succ]
        try simp only [List.getElem_cons_zero]
        try simp only [List.setIfInBounds_toArray]
        try simp only [List.set_cons_succ, List.set_cons_zero]
        refine wpAnyH_ready (rs := [7]) (by kernel_rfl) (by simp) ?_
        refine AllReadyH.cons rfl (fun K hK => ?_) AllReadyH.nil
        rw [if_pos (by kernel_rfl)]
        refine wp_append_own _ _ _ 43 rfl w.heap.size 84 iP _ 10 104 Tryz.underlying43 hiP zP0 zP1 zP2 rfl (by decide) (.slice pj k cj) k (jcs J) (by rfl) (by have := HJ2.out.row; rw [hJk] at this; exact this) ⟨V.heap.size, 0, none⟩ 1 1 (Jb.cs ⟨r, P, .slice tp nl tc⟩) (by rfl) rfl (fun j u hu => by rw [Addr.add_lit, Nat.zero_add]; simp only [World.cell?, hnew]; simp only [Jb.cs, plC] at hu; simpa using hu) (by intro u hu; simp only [Jb.cs, plC, List.mem_cons, List.not_mem_nil, or_false] at hu; rcases hu with rfl | rfl | rfl | rfl | rfl | rfl | rfl | rfl | rfl | rfl <;> rfl) (by unfold maxLen; omega) (by omega) (by rw [World.size_alloc]; have := HS1.out.sz; omega) ?_
        intro v9 w9 hown hgrow _
        obtain ⟨p9, c9, rfl⟩ := own_slice hown
        have hpush := Jr.push (j := ⟨r, P, .slice tp nl tc⟩) HJ2.out (by show World.ownsRow _ _ _ _ _ P.lg.length _; rw [hnl]; exact HO2.out) HX2.out (by rw [hJk]; exact hown) hgrow
        obtain ⟨hJ9, hX9, x9, z9, hl9⟩ := hpush
        have HJ9 := hide hJ9
        have HX9 := hide hX9
        have hnb : ∀ g (t : TypeId) cs, t ≠ 84 → (V.alloc (.cells #[.int .i64 r.job, .int .i64 r.st, .int .i64 r.att, .int .i64 r.bdg, .int .i64 r.node, .int .i64 r.life, .int .i64 r.code, .int .u64 r.bits, .string P.pr, .slice tp nl tc] 84)).heap[g]? = some (Obj.cells cs t (0, 0)) → w9.heap[g]? = some (Obj.cells cs t (0, 0)) := fun g t cs ht h => (hgrow.block g (lt_of_block h) (fun e => own_ty HJ2.out.row h ht e.symm)).trans h
        have HS9 : Hid (Sv w B K4 w9) := hide ⟨HS2.out.b.grown hgrow (by rw [World.size_alloc]; have := HS1.out.sz; omega) (fun g hg2 => (HJ2.out.row.lt g hg2).1), hnb _ _ _ (by decide) HS2.out.k, hnb _ _ _ (by decide) HS2.out.r, HS2.out.l⟩
        have HR9 : Hid (Rx B b _ w9) := hide (HR2.out.grown hgrow (fun e => by obtain ⟨q, hq, _⟩ := HR2.out.ex; exact own_ty HJ2.out.row hq (by decide) e.symm))
        clear hown hgrow hnb hJ9 hX9
        refine hK.out _ _ (HS9.out) (fun hHeld => ?_)
        clear hK K
        try simp only [Act.put]
        try simp only [List.getElem_toArray]
        try simp only [List.getElem_cons_succ]
        try simp only [List.getElem_cons_zero]
        try simp only [List.setIfInBounds_toArray]
        try simp only [List.set_cons_succ, List.set_cons_zero]
        refine wpAnyH_take (i := 8) (v := .pointer (some ⟨X, 1, none⟩)) rfl (by kernel_rfl) (by kernel_rfl) (by kernel_rfl) (fun _ _ _ h => h) (Or.inl ⟨by kernel_rfl, fun w1 hSw => by clear hHeld; have k0 := HCe.out _ hSw; go_simp⟩) hHeld ?_
        try simp only [Act.put]
        try simp only [List.getElem_toArray]
        try simp only [List.getElem_cons_succ]
        try simp only [List.getElem_cons_zero]
        try simp only [List.setIfInBounds_toArray]
        try simp only [List.set_cons_succ, List.set_cons_zero]
        refine wpAnyH_ready (rs := [9]) (by kernel_rfl) (by simp) ?_
        refine AllReadyH.cons rfl (fun K hK => ?_) AllReadyH.nil
        go_simp
        refine hK.out _ _ (HS9.out.set (X := X) 1 _ HXs.out) (fun hHeld => ?_)
        clear hK K
        try simp only [Act.put]
        try simp only [List.getElem_toArray]
        try simp only [List.getElem_cons_succ]
        try simp only [List.getElem_cons_zero]
        try simp only [List.setIfInBounds_toArray]
        try simp only [List.set_cons_succ, List.set_cons_zero]
        refine wpAnyH_done (by kernel_rfl) ?_ _
        clear hHeld
        have HSf := hide (HS9.out.set (X := X) 1 (.slice p9 (k + 1) c9) HXs.out)
        have HRf := hide (HR9.out.set (X := X) 1 (.slice p9 (k + 1) c9) (fun e => HXB.out e.symm))
        have HVf := hide (Jv.push HV.out hJk HrE.out HpE.out (.slice tp nl tc))
        clear HS9 HR9
        go_wp2_with fail
        go_roundw
        case rel => exact ⟨k + 1, p9, c9, J ++ [⟨r, P, .slice tp nl tc⟩], by go_num, by omega, by simp [hJk], HX9, HJ9, HVf, HRf, HSf⟩
        case measure => simp only [intOf]; omega
      · go_simp
        refine (HNj.out _ HR.out.drew).mono ?_
        rintro e V ⟨t, rfl, ho, hx, hg⟩
        obtain ⟨tp, tc, rfl⟩ := own_slice ho
        have HR1 := hide hx
        have HS1 := hide (hHeld.call hg HBs.out)
        have HX1 : Hid (V.heap[X]? = some (.cells #[.int .i64 s.res, .slice pj k cj] 45 (0, 0))) := hide ((hg.block X hXl (fun e => by injection e with e; exact HXB.out e)).trans HX.out)
        have HJ1 : Hid (Jr w.heap.size V (.slice pj k cj) J) := hide ((jr_drew HJ.out).gb hg ⟨(HRT.out).choose_spec, by decide, by decide⟩)
        have HO1 : Hid (V.ownsRow w.heap.size 9 1 (.slice tp P.lg.length tc) P.lg.length (tcs P.lg)) := hide (own_weak ho HWr.out)
        have x1 : V.cell? ⟨X, 1, none⟩ = some (.slice pj k cj) := by simp [World.cell?, HX1.out]
        clear hx hg ho
        generalize hnl : P.lg.length = nl at *
        simp only [plC]
        refine hK.out _ _ (HS1.out) (fun hHeld => ?_)
        clear hK K
        try simp only [Act.put]
        try simp only [List.getElem_toArray]
        try simp only [List.getElem_cons_succ]
        try simp only [List.getElem_cons_zero]
        try simp only [List.setIfInBounds_toArray]
        try simp only [List.set_cons_succ, List.set_cons_zero]
        refine wpAnyH_ready (rs := [1, 6]) (by kernel_rfl) (by simp) ?_
        refine AllReadyH.cons rfl (fun K hK => ?_) (AllReadyH.cons rfl (fun K hK => ?_) AllReadyH.nil)
        · go_simp
          refine hK.out _ _ (hHeld) (fun hHeld => ?_)
          clear hK K
          try simp only [Act.put]
          try simp only [List.getElem_toArray]
          try simp only [List.getElem_cons_succ]
          try simp only [List.getElem_cons_zero]
          try simp only [List.setIfInBounds_toArray]
          try simp only [List.set_cons_succ, List.set_cons_zero]
          refine wpAnyH_ready (rs := [6]) (by kernel_rfl) (by simp) ?_
          refine AllReadyH.cons rfl (fun K hK => ?_) AllReadyH.nil
          go_simp
          have hba := below_alloc V (.cells #[.int .i64 r.job, .int .i64 r.st, .int .i64 r.att, .int .i64 r.bdg, .int .i64 r.node, .int .i64 r.life, .int .i64 r.code, .int .u64 r.bits, .string P.pr, .slice tp nl tc] 84)
          have HS2 := hide (HS1.out.below hba)
          have HR2 := hide (HR1.out.below hba)
          have HX2 : Hid ((V.alloc (.cells #[.int .i64 r.job, .int .i64 r.st, .int .i64 r.att, .int .i64 r.bdg, .int .i64 r.node, .int .i64 r.life, .int .i64 r.code, .int .u64 r.bits, .string P.pr, .slice tp nl tc] 84)).heap[X]? = some (.cells #[.int .i64 s.res, .slice pj k cj] 45 (0, 0))) := hide ((hba.block _ (lt_of_block HX1.out)).trans HX1.out)
          have HJ2 := hide (HJ1.out.below hba)
          have HO2 := hide (own_keep HO1.out fun g hg2 => hba.block g (HO1.out.lt g hg2).2)
          have hnew : (V.alloc (.cells #[.int .i64 r.job, .int .i64 r.st, .int .i64 r.att, .int .i64 r.bdg, .int .i64 r.node, .int .i64 r.life, .int .i64 r.code, .int .u64 r.bits, .string P.pr, .slice tp nl tc] 84)).heap[V.heap.size]? = some (.cells #[.int .i64 r.job, .int .i64 r.st, .int .i64 r.att, .int .i64 r.bdg, .int .i64 r.node, .int .i64 r.life, .int .i64 r.code, .int .u64 r.bits, .string P.pr, .slice tp nl tc] 84 (0, 0)) := heap_alloc_new V _
          have x2 : (V.alloc (.cells #[.int .i64 r.job, .int .i64 r.st, .int .i64 r.att, .int .i64 r.bdg, .int .i64 r.node, .int .i64 r.life, .int .i64 r.code, .int .u64 r.bits, .string P.pr, .slice tp nl tc] 84)).cell? ⟨X, 1, none⟩ = some (.slice pj k cj) := Lib.cell?_alloc_some _ x1
          clear hba
          refine hK.out _ _ (HS2.out) (fun hHeld => ?_)
          clear hK K
          try simp only [Act.put]
          try simp only [List.getElem_toArray]
          try simp only [List.getElem_cons_succ]
          try simp only [List.getElem_cons_zero]
          try simp only [List.setIfInBounds_toArray]
          try simp only [List.set_cons_succ, List.set_cons_zero]
          refine wpAnyH_ready (rs := [7]) (by kernel_rfl) (by simp) ?_
          refine AllReadyH.cons rfl (fun K hK => ?_) AllReadyH.nil
          rw [if_pos (by kernel_rfl)]
          refine wp_append_own _ _ _ 43 rfl w.heap.size 84 iP _ 10 104 Tryz.underlying43 hiP zP0 zP1 zP2 rfl (by decide) (.slice pj k cj) k (jcs J) (by rfl) (by have := HJ2.out.row; rw [hJk] at this; exact this) ⟨V.heap.size, 0, none⟩ 1 1 (Jb.cs ⟨r, P, .slice tp nl tc⟩) (by rfl) rfl (fun j u hu => by rw [Addr.add_lit, Nat.zero_add]; simp only [World.cell?, hnew]; simp only [Jb.cs, plC] at hu; simpa using hu) (by intro u hu; simp only [Jb.cs, plC, List.mem_cons, List.not_mem_nil, or_false] at hu; rcases hu with rfl | rfl | rfl | rfl | rfl | rfl | rfl | rfl | rfl | rfl <;> rfl) (by unfold maxLen; omega) (by omega) (by rw [World.size_alloc]; have := HS1.out.sz; omega) ?_
          intro v9 w9 hown hgrow _
          obtain ⟨p9, c9, rfl⟩ := own_slice hown
          have hpush := Jr.push (j := ⟨r, P, .slice tp nl tc⟩) HJ2.out (by show World.ownsRow _ _ _ _ _ P.lg.length _; rw [hnl]; exact HO2.out) HX2.out (by rw [hJk]; exact hown) hgrow
          obtain ⟨hJ9, hX9, x9, z9, hl9⟩ := hpush
          have HJ9 := hide hJ9
          have HX9 := hide hX9
          have hnb : ∀ g (t : TypeId) cs, t ≠ 84 → (V.alloc (.cells #[.int .i64 r.job, .int .i64 r.st, .int .i64 r.att, .int .i64 r.bdg, .int .i64 r.node, .int .i64 r.life, .int .i64 r.code, .int .u64 r.bits, .string P.pr, .slice tp nl tc] 84)).heap[g]? = some (Obj.cells cs t (0, 0)) → w9.heap[g]? = some (Obj.cells cs t (0, 0)) := fun g t cs ht h => (hgrow.block g (lt_of_block h) (fun e => own_ty HJ2.out.row h ht e.symm)).trans h
          have HS9 : Hid (Sv w B K4 w9) := hide ⟨HS2.out.b.grown hgrow (by rw [World.size_alloc]; have := HS1.out.sz; omega) (fun g hg2 => (HJ2.out.row.lt g hg2).1), hnb _ _ _ (by decide) HS2.out.k, hnb _ _ _ (by decide) HS2.out.r, HS2.out.l⟩
          have HR9 : Hid (Rx B b _ w9) := hide (HR2.out.grown hgrow (fun e => by obtain ⟨q, hq, _⟩ := HR2.out.ex; exact own_ty HJ2.out.row hq (by decide) e.symm))
          clear hown hgrow hnb hJ9 hX9
          refine hK.out _ _ (HS9.out) (fun hHeld => ?_)
          clear hK K
          try simp only [Act.put]
          try simp only [List.getElem_toArray]
          try simp only [List.getElem_cons_succ]
          try simp only [List.getElem_cons_zero]
          try simp only [List.setIfInBounds_toArray]
          try simp only [List.set_cons_succ, List.set_cons_zero]
          refine wpAnyH_take (i := 8) (v := .pointer (some ⟨X, 1, none⟩)) rfl (by kernel_rfl) (by kernel_rfl) (by kernel_rfl) (fun _ _ _ h => h) (Or.inl ⟨by kernel_rfl, fun w1 hSw => by clear hHeld; have k0 := HCe.out _ hSw; go_simp⟩) hHeld ?_
          try simp only [Act.put]
          try simp only [List.getElem_toArray]
          try simp only [List.getElem_cons_succ]
          try simp only [List.getElem_cons_zero]
          try simp only [List.setIfInBounds_toArray]
          try simp only [List.set_cons_succ, List.set_cons_zero]
          refine wpAnyH_ready (rs := [9]) (by kernel_rfl) (by simp) ?_
          refine AllReadyH.cons rfl (fun K hK => ?_) AllReadyH.nil
          go_simp
          refine hK.out _ _ (HS9.out.set (X := X) 1 _ HXs.out) (fun hHeld => ?_)
          clear hK K
          try simp only [Act.put]
          try simp only [List.getElem_toArray]
          try simp only [List.getElem_cons_succ]
          try simp only [List.getElem_cons_zero]
          try simp only [List.setIfInBounds_toArray]
          try simp only [List.set_cons_succ, List.set_cons_zero]
          refine wpAnyH_done (by kernel_rfl) ?_ _
          clear hHeld
          have HSf := hide (HS9.out.set (X := X) 1 (.slice p9 (k + 1) c9) HXs.out)
          have HRf := hide (HR9.out.set (X := X) 1 (.slice p9 (k + 1) c9) (fun e => HXB.out e.symm))
          have HVf := hide (Jv.push HV.out hJk HrE.out HpE.out (.slice tp nl tc))
          clear HS9 HR9
          go_wp2_with fail
          go_roundw
          case rel => exact ⟨k + 1, p9, c9, J ++ [⟨r, P, .slice tp nl tc⟩], by go_num, by omega, by simp [hJk], HX9, HJ9, HVf, HRf, HSf⟩
          case measure => simp only [intOf]; omega
        · go_simp
          have hba := below_alloc V (.cells #[.int .i64 r.job, .int .i64 r.st, .int .i64 r.att, .int .i64 r.bdg, .int .i64 r.node, .int .i64 r.life, .int .i64 r.code, .int .u64 r.bits, .string P.pr, .slice tp nl tc] 84)
          have HS2 := hide (HS1.out.below hba)
          have HR2 := hide (HR1.out.below hba)
          have HX2 : Hid ((V.alloc (.cells #[.int .i64 r.job, .int .i64 r.st, .int .i64 r.att, .int .i64 r.bdg, .int .i64 r.node, .int .i64 r.life, .int .i64 r.code, .int .u64 r.bits, .string P.pr, .slice tp nl tc] 84)).heap[X]? = some (.cells #[.int .i64 s.res, .slice pj k cj] 45 (0, 0))) := hide ((hba.block _ (lt_of_block HX1.out)).trans HX1.out)
          have HJ2 := hide (HJ1.out.below hba)
          have HO2 := hide (own_keep HO1.out fun g hg2 => hba.block g (HO1.out.lt g hg2).2)
          have hnew : (V.alloc (.cells #[.int .i64 r.job, .int .i64 r.st, .int .i64 r.att, .int .i64 r.bdg, .int .i64 r.node, .int .i64 r.life, .int .i64 r.code, .int .u64 r.bits, .string P.pr, .slice tp nl tc] 84)).heap[V.heap.size]? = some (.cells #[.int .i64 r.job, .int .i64 r.st, .int .i64 r.att, .int .i64 r.bdg, .int .i64 r.node, .int .i64 r.life, .int .i64 r.code, .int .u64 r.bits, .string P.pr, .slice tp nl tc] 84 (0, 0)) := heap_alloc_new V _
          have x2 : (V.alloc (.cells #[.int .i64 r.job, .int .i64 r.st, .int .i64 r.att, .int .i64 r.bdg, .int .i64 r.node, .int .i64 r.life, .int .i64 r.code, .int .u64 r.bits, .string P.pr, .slice tp nl tc] 84)).cell? ⟨X, 1, none⟩ = some (.slice pj k cj) := Lib.cell?_alloc_some _ x1
          clear hba
          refine hK.out _ _ (HS2.out) (fun hHeld => ?_)
          clear hK K
          try simp only [Act.put]
          try simp only [List.getElem_toArray]
          try simp only [List.getElem_cons_succ]
          try simp only [List.getElem_cons_zero]
          try simp only [List.setIfInBounds_toArray]
          try simp only [List.set_cons_succ, List.set_cons_zero]
          refine wpAnyH_ready (rs := [1]) (by kernel_rfl) (by simp) ?_
          refine AllReadyH.cons rfl (fun K hK => ?_) AllReadyH.nil
          go_simp
          refine hK.out _ _ (hHeld) (fun hHeld => ?_)
          clear hK K
          try simp only [Act.put]
          try simp only [List.getElem_toArray]
          try simp only [List.getElem_cons_succ]
          try simp only [List.getElem_cons_zero]
          try simp only [List.setIfInBounds_toArray]
          try simp only [List.set_cons_succ, List.set_cons_zero]
          refine wpAnyH_ready (rs := [7]) (by kernel_rfl) (by simp) ?_
          refine AllReadyH.cons rfl (fun K hK => ?_) AllReadyH.nil
          rw [if_pos (by kernel_rfl)]
          refine wp_append_own _ _ _ 43 rfl w.heap.size 84 iP _ 10 104 Tryz.underlying43 hiP zP0 zP1 zP2 rfl (by decide) (.slice pj k cj) k (jcs J) (by rfl) (by have := HJ2.out.row; rw [hJk] at this; exact this) ⟨V.heap.size, 0, none⟩ 1 1 (Jb.cs ⟨r, P, .slice tp nl tc⟩) (by rfl) rfl (fun j u hu => by rw [Addr.add_lit, Nat.zero_add]; simp only [World.cell?, hnew]; simp only [Jb.cs, plC] at hu; simpa using hu) (by intro u hu; simp only [Jb.cs, plC, List.mem_cons, List.not_mem_nil, or_false] at hu; rcases hu with rfl | rfl | rfl | rfl | rfl | rfl | rfl | rfl | rfl | rfl <;> rfl) (by unfold maxLen; omega) (by omega) (by rw [World.size_alloc]; have := HS1.out.sz; omega) ?_
          intro v9 w9 hown hgrow _
          obtain ⟨p9, c9, rfl⟩ := own_slice hown
          have hpush := Jr.push (j := ⟨r, P, .slice tp nl tc⟩) HJ2.out (by show World.ownsRow _ _ _ _ _ P.lg.length _; rw [hnl]; exact HO2.out) HX2.out (by rw [hJk]; exact hown) hgrow
          obtain ⟨hJ9, hX9, x9, z9, hl9⟩ := hpush
          have HJ9 := hide hJ9
          have HX9 := hide hX9
          have hnb : ∀ g (t : TypeId) cs, t ≠ 84 → (V.alloc (.cells #[.int .i64 r.job, .int .i64 r.st, .int .i64 r.att, .int .i64 r.bdg, .int .i64 r.node, .int .i64 r.life, .int .i64 r.code, .int .u64 r.bits, .string P.pr, .slice tp nl tc] 84)).heap[g]? = some (Obj.cells cs t (0, 0)) → w9.heap[g]? = some (Obj.cells cs t (0, 0)) := fun g t cs ht h => (hgrow.block g (lt_of_block h) (fun e => own_ty HJ2.out.row h ht e.symm)).trans h
          have HS9 : Hid (Sv w B K4 w9) := hide ⟨HS2.out.b.grown hgrow (by rw [World.size_alloc]; have := HS1.out.sz; omega) (fun g hg2 => (HJ2.out.row.lt g hg2).1), hnb _ _ _ (by decide) HS2.out.k, hnb _ _ _ (by decide) HS2.out.r, HS2.out.l⟩
          have HR9 : Hid (Rx B b _ w9) := hide (HR2.out.grown hgrow (fun e => by obtain ⟨q, hq, _⟩ := HR2.out.ex; exact own_ty HJ2.out.row hq (by decide) e.symm))
          clear hown hgrow hnb hJ9 hX9
          refine hK.out _ _ (HS9.out) (fun hHeld => ?_)
          clear hK K
          try simp only [Act.put]
          try simp only [List.getElem_toArray]
          try simp only [List.getElem_cons_succ]
          try simp only [List.getElem_cons_zero]
          try simp only [List.setIfInBounds_toArray]
          try simp only [List.set_cons_succ, List.set_cons_zero]
          refine wpAnyH_take (i := 8) (v := .pointer (some ⟨X, 1, none⟩)) rfl (by kernel_rfl) (by kernel_rfl) (by kernel_rfl) (fun _ _ _ h => h) (Or.inl ⟨by kernel_rfl, fun w1 hSw => by clear hHeld; have k0 := HCe.out _ hSw; go_simp⟩) hHeld ?_
          try simp only [Act.put]
          try simp only [List.getElem_toArray]
          try simp only [List.getElem_cons_succ]
          try simp only [List.getElem_cons_zero]
          try simp only [List.setIfInBounds_toArray]
          try simp only [List.set_cons_succ, List.set_cons_zero]
          refine wpAnyH_ready (rs := [9]) (by kernel_rfl) (by simp) ?_
          refine AllReadyH.cons rfl (fun K hK => ?_) AllReadyH.nil
          go_simp
          refine hK.out _ _ (HS9.out.set (X := X) 1 _ HXs.out) (fun hHeld => ?_)
          clear hK K
          try simp only [Act.put]
          try simp only [List.getElem_toArray]
          try simp only [List.getElem_cons_succ]
          try simp only [List.getElem_cons_zero]
          try simp only [List.setIfInBounds_toArray]
          try simp only [List.set_cons_succ, List.set_cons_zero]
          refine wpAnyH_done (by kernel_rfl) ?_ _
          clear hHeld
          have HSf := hide (HS9.out.set (X := X) 1 (.slice p9 (k + 1) c9) HXs.out)
          have HRf := hide (HR9.out.set (X := X) 1 (.slice p9 (k + 1) c9) (fun e => HXB.out e.symm))
          have HVf := hide (Jv.push HV.out hJk HrE.out HpE.out (.slice tp nl tc))
          clear HS9 HR9
          go_wp2_with fail
          go_roundw
          case rel => exact ⟨k + 1, p9, c9, J ++ [⟨r, P, .slice tp nl tc⟩], by go_num, by omega, by simp [hJk], HX9, HJ9, HVf, HRf, HSf⟩
          case measure => simp only [intOf]; omega
    · obtain rfl : n = k := by omega
      have hki : ¬ ((n : Int) < (n : Int)) := by omega
      have hRe : Rx B b [] wr := by
        have h9 := HR.out
        rw [List.drop_eq_nil_of_le (by rw [jps_len, HNn.out]; exact Nat.le_refl _)] at h9
        exact h9
      have k0 : wr.cell? ⟨K4, 0, none⟩ = some (.pointer (some ⟨B, 0, none⟩)) := by simp [World.cell?, HS.out.k]
      have HL := hide (HEn.out _ _ hRe)
      clear hRe HR
      go_wp2_with fail
      refine HL.out.mono ?_
      rintro e w4 ⟨rfl, q, rfl⟩
      have hX4 : (wr.drewN q).heap[X]? = some (.cells #[.int .i64 s.res, .slice pj n cj] 45 (0, 0)) := HX.out
      have hr4 : (wr.drewN q).heap[w.heap.size]? = some (.cells #[.int .i64 0, .slice none 0 0] 45 (0, 0)) := HS.out.r
      have HJ4 : Hid (Jr w.heap.size (wr.drewN q) (.slice pj n cj) J) := hide ⟨own_keep HJ.out.row fun _ _ => rfl, fun j hj => own_keep (HJ.out.lg j hj) fun _ _ => rfl⟩
      have HB4 : Hid (Below w.heap.size w (wr.drewN q)) := hide (below_drewN HS.out.b q)
      clear HJ HS HX HL k0 HNJ HEn
      generalize wr.drewN q = W4 at *
      have x0 : W4.cell? ⟨X, 0, none⟩ = some (.int .i64 s.res) := by simp [World.cell?, hX4]
      have x1 : W4.cell? ⟨X, 1, none⟩ = some (.slice pj n cj) := by simp [World.cell?, hX4]
      have y0 : W4.cell? ⟨w.heap.size, 0, none⟩ = some (.int .i64 0) := by simp [World.cell?, hr4]
      have y1 : W4.cell? ⟨w.heap.size, 1, none⟩ = some (.slice none 0 0) := by simp [World.cell?, hr4]
      have z0 : W4.frozen? ⟨w.heap.size, 0, none⟩ = false := by simp [World.frozen?, hr4]
      have z1 : W4.frozen? ⟨w.heap.size, 1, none⟩ = false := by simp [World.frozen?, hr4]
      have hyl := lt_of_block hr4
      have hr5 : (W4.setCell ⟨w.heap.size, 0, none⟩ (.int .i64 s.res)).heap[w.heap.size]? = some (.cells #[.int .i64 s.res, .slice none 0 0] 45 (0, 0)) := by rw [cells_set hr4]; rfl
      have HRF : Hid (((W4.setCell ⟨w.heap.size, 0, none⟩ (.int .i64 s.res)).setCell ⟨w.heap.size, 1, none⟩ (.slice pj n cj)).heap[w.heap.size]? = some (.cells #[.int .i64 s.res, .slice pj n cj] 45 (0, 0))) := hide (by rw [cells_set hr5]; rfl)
      have HJF := hide ((HJ4.out.boxv hr4 0 (.int .i64 s.res)).boxv hr5 1 (.slice pj n cj))
      have HBF := hide ((HB4.out.setCell (p := ⟨w.heap.size, 0, none⟩) (Nat.le_refl _) (.int .i64 s.res)).setCell (p := ⟨w.heap.size, 1, none⟩) (Nat.le_refl _) (.slice pj n cj))
      clear hX4 hr4 hr5 HJ4 HB4
      go_wp2_with fail
      refine bodyPost_ret (by rw [results_cell_tmp (fn := Tryz.f25) rfl]; go_simp; rfl) rfl ?_
      exact ⟨_, J, rfl, HJF.out, hJk.trans HNn.out.symm, by rw [HNn.out]; exact HV.out, HBF.out⟩
end Go.Proofs.YtepondcflkledaaGreat.S
end
