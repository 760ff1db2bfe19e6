import Derived.Test.YtnhibcadenmglaaDkRa
namespace Go.Proofs.Ytnhibcadenmglaa
open Go.RowKit

theorem ext_all {x : ByteArray} (h : x.size = 128) : x.extract 0 128 = x := by
  apply ba_ext
  rw [ByteArray.data_extract, Array.toList_extract, List.extract_eq_take_drop, List.drop_zero, List.take_of_length_le]
  rw [← size_list, h]
  exact Nat.le_refl _
theorem own_grow {w w' : World} {o : Obj} {B : Nat} (h : Below B w w) (hB : B ≤ w.heap.size) {r : Option Nat} (hg : (w.alloc o).grownBy w' r) (hr : ∀ k, r = some k → B ≤ k) : Below B w w' :=
  (h.alloc hB o).grown hg (by rw [World.size_alloc]; omega) hr

/-- a new row of sectors is put in -/
theorem rk_putS {B : Nat} {w w1 : World} {c : Nat} {adS : Option Addr} {cS abS : Nat} {adR : Option Addr} {cR abR : Nat} {d d' : DS} {ad' : Option Addr} {c' ab' : Nat} (h : RkV B w c adS cS abS adR cR abR d) (hb : Below w.heap.size w w1) (hr : Rs w1 ad' ab' 0 d'.S) (hab : w.heap.size ≤ ab')
    (hl : d'.S.length = d.S.length) (hR : d'.R = d.R) (e1 : d'.left = d.left) (e2 : d'.byt = d.byt) (e3 : d'.dead = d.dead) (ok : d'.ok) :
    RkV B (w1.setCell ⟨c, 0, none⟩ (.slice ad' d.S.length c')) c ad' c' ab' adR cR abR d' ∧ Mv (Is c) (Is c) w (w1.setCell ⟨c, 0, none⟩ (.slice ad' d.S.length c')) := by
  have hlt := h.lt
  have hblk := (hb.block c hlt).trans h.blk
  refine ⟨⟨?_, h.low, hr.keep (fun _ => Below.heap_setCell _ _ _ _ (by show ab' ≠ c; omega)), ?_, by omega, by rw [hR]; exact h.nr, Nat.le_trans h.low (by omega), by rw [hR]; exact h.lr, ok⟩, ?_⟩
  · rw [setFive hblk 0 _, hl, hR, e1, e2, e3]; rfl
  · rw [hR]; exact (h.rr.below hb).keep (fun h0 => Below.heap_setCell _ _ _ _ (h.nr h0))
  · exact (Mv.of_below hb).set (show Is c c from rfl) _
theorem gd_new {abS abR ab' B : Nat} {d d' : DS} (hR : d'.R = d.R) (hab : B ≤ ab') : ∀ k, Gd ab' abR d' k → Gd abS abR d k ∨ B ≤ k := by
  rintro k (rfl | ⟨h0, rfl⟩)
  · exact .inr hab
  · exact .inl (.inr ⟨by rw [← hR]; exact h0, rfl⟩)

/-- a new row of writes is put in -/
theorem rk_putR {B : Nat} {w w1 : World} {c : Nat} {adS : Option Addr} {cS abS : Nat} {adR : Option Addr} {cR abR : Nat} {d : DS} {x : Wr} {ad' : Option Addr} {c' : Nat} (h : RkV B w c adS cS abS adR cR abR d) (hb : Below w.heap.size w w1)
    (ho : w1.ownsRow w.heap.size 50 2 (.slice ad' (d.R.length + 1) c') (d.R.length + 1) (wcs d.R ++ [.int .i64 x.sec, .string x.data])) (ok : DS.ok { d with R := d.R ++ [x] }) :
    ∃ ab', RkV B (w1.setCell ⟨c, 1, none⟩ (.slice ad' (d.R.length + 1) c')) c adS cS abS ad' c' ab' { d with R := d.R ++ [x] } ∧ Mv (Is c) (Is c) w (w1.setCell ⟨c, 1, none⟩ (.slice ad' (d.R.length + 1) c')) ∧ w.heap.size ≤ ab' := by
  have hlt := h.lt
  have hblk := (hb.block c hlt).trans h.blk
  have ho' : w1.ownsRow w.heap.size 50 2 (.slice ad' (d.R.length + 1) c') (d.R.length + 1) (wcs (d.R ++ [x])) := by rw [wcs_append, wcs_one]; exact ho
  obtain ⟨ab', hr⟩ := (Rw.own ho').2
  have ea := hr.at_ (by simp)
  subst ea
  have hab := (ho'.lt ab' rfl).1
  refine ⟨ab', ⟨?_, h.low, (h.rs.below hb).keep (fun _ => Below.heap_setCell _ _ _ _ h.ns), hr.keep (fun _ => Below.heap_setCell _ _ _ _ (by show ab' ≠ c; omega)), h.ns, fun _ => by omega, h.ls, fun _ => Nat.le_trans h.low (by omega), ok⟩, (Mv.of_below hb).set (show Is c c from rfl) _, hab⟩
  rw [setFive hblk 1 _]
  show _ = some (Obj.cells #[_, .slice _ (d.R ++ [x]).length _, _, _, _] _ _)
  rw [List.length_append, List.length_singleton]
  rfl
theorem gd_newR {abS abR ab' ab2 B : Nat} {d d' : DS} (hab : B ≤ ab') (hab2 : B ≤ ab2) : ∀ k, Gd ab' ab2 d' k → Gd abS abR d k ∨ B ≤ k := by
  rintro k (rfl | ⟨h0, rfl⟩)
  · exact .inr hab
  · exact .inr hab2

set_option maxHeartbeats 1000000 in
set_option maxRecDepth 8000 in
theorem rwrite_any {B : Nat} {w : World} {c : Nat} {G : Nat → Prop} {d : DS} (h : Rk B w c G d) (k : Int) (data : ByteArray) (hRl : d.R.length ≤ 5864062014634) :
    Calls Try.prog 45 #[.pointer (some ⟨c, 0, none⟩), .int .i64 k, .string data] w fun e w' => e = .returned (.int .i64 (d.write k data).1) ∧ ∃ G', Rk B w' c G' (d.write k data).2 ∧ Mv (Is c) (Is c) w w' ∧ ∀ j, G' j → G j ∨ w.heap.size ≤ j := by
  obtain ⟨adS, cS, abS, adR, cR, abR, h, rfl⟩ := h
  have c0 := h.c0
  have c1 := h.c1
  have c2 := h.c2
  have c3 := h.c3
  have c4 := h.c4
  have z := h.z
  have hS := h.ok.s1
  have hlt := h.lt
  have same : ∀ j, Gd abS abR d j → Gd abS abR d j ∨ w.heap.size ≤ j := fun j hj => .inl hj
  cases hd : d.dead
  · rw [hd] at c4
    by_cases hk : 0 ≤ k ∧ k < (d.S.length : Int)
    · have b0 : decide (k < 0) = false := by simp; omega
      have b1 : decide ((d.S.length : Int) ≤ k) = false := by simp; omega
      by_cases hz : data.size = 128
      · by_cases hl : d.left = 1
        · have HOK := hide (DS.write_ok h.ok k data)
          rw [DS.write_cut hd hk hz hl] at HOK ⊢
          rw [hl] at c2
          have q0 := h.ok.b0
          have q1 := h.ok.b1
          obtain ⟨y, hy⟩ : ∃ y : Nat, d.byt = (y : Int) := ⟨d.byt.toNat, by omega⟩
          rw [hy] at c3
          have HLa := hide (laid_any (cap := cS) (b := y) (h.rs.keep (w' := w.drew) (fun _ => rfl)) h.ok.s128 (by omega) hk hz (by omega))
          have KC : Hid (∀ w1, Below w.heap.size w w1 → w1.cell? ⟨c, 0, none⟩ = some (.slice adS d.S.length cS) ∧ w1.cell? ⟨c, 3, none⟩ = some (.int .i64 (y : Int)) ∧ ∀ j, w1.frozen? ⟨c, j, none⟩ = false) := fun w1 hb => by
            have e := (hb.block c hlt).trans h.blk
            exact ⟨by simp [World.cell?, e], by rw [hy] at e; simp [World.cell?, e], fun j => by simp [World.frozen?, e]⟩
          have KD : Hid (∀ w1, Below w.heap.size w w1 → ∀ v : Value, (w1.setCell ⟨c, 0, none⟩ v).cell? ⟨c, 4, none⟩ = some (.bool d.dead) ∧ ∀ j, (w1.setCell ⟨c, 0, none⟩ v).frozen? ⟨c, j, none⟩ = false) := fun w1 hb v => by
            have e := setFive ((hb.block c hlt).trans h.blk) 0 v
            exact ⟨by simp [World.cell?, e], fun j => by simp [World.frozen?, e]⟩
          have H := hide h
          have HY := hide hy
          have hyt : d.byt.toNat = y := by omega
          rw [hyt] at HOK ⊢
          clear h hk hy hyt same
          go_enter Try.func45, Try.ntmps45
          go_wp2_with fail
          go_region_with (first
            | (go_at_call 39; refine HLa.out.mono ?_; rintro e w1 ⟨ad1, cap1, ab1, rfl, hr1, hab1, hb1⟩; have HR1 := hide hr1; have HAB1 := hide hab1; have HB1 := hide (below_drew hb1); obtain ⟨k0, k3, kz⟩ := KC.out w1 (below_drew hb1); clear hr1 hab1 hb1))
          all_goals
            have hP := rk_putS (d' := { d with S := layS d.S k.toNat (data.extract 0 y) }) (c' := cap1) H.out HB1.out HR1.out HAB1.out (layS_len _ _ _) rfl rfl rfl rfl ⟨HOK.out.s128, HOK.out.l0, HOK.out.l1, HOK.out.b0, HOK.out.b1, HOK.out.s0, HOK.out.s1⟩
            have HP1 := hide hP.1
            have HP2 := hide hP.2
            obtain ⟨kd, kf⟩ := KD.out w1 HB1.out (.slice ad1 d.S.length cap1)
            have HAB : Hid (w.heap.size ≤ ab1) := HAB1.out
            clear hP k0 k3 kz
            go_wp2_with fail
            go_ret
            refine ⟨rfl, _, ⟨_, _, _, _, _, _, HP1.out.put (d' := { d with S := layS d.S k.toNat (data.extract 0 y), dead := true }) ?_ (fun j hj => Below.heap_setCell _ _ _ j hj) rfl rfl HOK.out, rfl⟩, HP2.out.set (show Is c c from rfl) _, gd_new rfl HAB.out⟩
            rw [setFive HP1.out.blk 4 _]; rfl
        · have HOK := hide (DS.write_ok h.ok k data)
          rw [DS.write_all hd hk hz hl] at HOK ⊢
          have q0 := h.ok.l0
          have q1 := h.ok.l1
          obtain ⟨iW, hiW, zW0, zW1, zW2⟩ := info_parts Try.infoW
          have b3 : (d.left == 1) = false := by simpa using hl
          have hxx := ext_all hz
          by_cases hp : 1 < d.left
          · rw [if_pos (by omega)] at HOK ⊢
            have b4 : decide (1 < d.left) = true := by simpa using hp
            obtain ⟨W1, hW1⟩ : ∃ W1, w.setCell ⟨c, 2, none⟩ (.int .i64 (d.left - 1)) = W1 := ⟨_, rfl⟩
            have h1 : RkV B W1 c adS cS abS adR cR abR { d with left := d.left - 1 } := by
              rw [← hW1]
              refine h.put ?_ (fun j hj => Below.heap_setCell _ _ _ j hj) rfl rfl ⟨h.ok.s128, by show 0 ≤ d.left - 1; omega, by show d.left - 1 ≤ _; omega, h.ok.b0, h.ok.b1, h.ok.s0, h.ok.s1⟩
              rw [setFive h.blk 2 _]; rfl
            have hm1 : Mv (Is c) (Is c) w W1 := by rw [← hW1]; exact (Mv.refl (F := Is c) w).set (show Is c c from rfl) _
            have hws : W1.heap.size = w.heap.size := by rw [← hW1]; exact setCell_size _ _ _
            have e0 : W1.cell? ⟨c, 0, none⟩ = some (.slice adS d.S.length cS) := h1.c0
            have e1 : W1.cell? ⟨c, 1, none⟩ = some (.slice adR d.R.length cR) := h1.c1
            have HLa := hide (laid_any (cap := cS) (b := 128) h1.rs h1.ok.s128 (show d.S.length ≤ 8796093021952 by omega) hk hz (by omega))
            rw [hxx] at HLa
            have H1 := hide h1
            have HM1 := hide hm1
            have HWS := hide hws
            clear h h1 hm1 hws hk hxx same hd
            go_enter Try.func45, Try.ntmps45
            go_wp2_with fail
            refine HLa.out.mono ?_
            rintro e w2 ⟨ad2, cap2, ab2, rfl, hr2, hab2, hb2⟩
            have hP := rk_putS (d' := { ({ d with left := d.left - 1 } : DS) with S := layS d.S k.toNat data }) (c' := cap2) H1.out hb2 hr2 hab2 (layS_len _ _ _) rfl rfl rfl rfl ⟨HOK.out.s128, HOK.out.l0, HOK.out.l1, HOK.out.b0, HOK.out.b1, HOK.out.s0, HOK.out.s1⟩
            have hz0 := (show RkV _ _ _ _ _ _ _ _ _ _ from H1.out.keep (fun j hj => hb2.block j (hj.elim (fun e => by rw [e]; exact H1.out.lt) (fun hg => (H1.out.glt j hg).2))))
            have kc0 : w2.cell? ⟨c, 0, none⟩ = some (.slice adS d.S.length cS) := hz0.c0
            have kz0 := hz0.z
            have HP1 := hide hP.1
            have HP2 := hide hP.2
            have HAB2 : Hid (W1.heap.size ≤ ab2) := hab2
            clear hP hz0 hr2 hab2 hb2 HLa c0 c1 c2 c3 c4 z
            go_upto_region 14 with fail
            clear kc0 kz0
            have HW2s : Hid (W1.heap.size ≤ (w2.setCell ⟨c, 0, none⟩ (.slice ad2 d.S.length cap2)).heap.size) := HP2.out.size
            generalize w2.setCell ⟨c, 0, none⟩ (.slice ad2 d.S.length cap2) = W2 at *
            have f1 : ∀ o, (W2.alloc o).cell? ⟨c, 1, none⟩ = some (.slice adR d.R.length cR) := fun o => Lib.cell?_alloc_some o HP1.out.c1
            have HRR : Hid (Rw W2 adR abR 0 d.R) := HP1.out.rr
            go_upto_region 15 with (first
              | (at_builtin; refine wpList_append_read rfl (.tmp 70) (.tmp 74) 40 rfl W2.heap.size 50 iW (.agg #[.int .i64 0, .string ByteArray.empty]) 2 24 Try.underlying40 hiW zW0 zW1 zW2 rfl (by decide) (.slice (some ⟨W2.heap.size, 0, none⟩) 0 0) 0 [] rfl (World.ownsRow_made W2 #[] 0 (Nat.le_refl _) (by decide) rfl) adR d.R.length cR (wcs d.R) rfl (wcs_len _) HRR.out.none (fun a0 ha j u hu => Lib.cell?_alloc_some _ (HRR.out.src a0 ha j u hu)) (wcs_ones _) (by unfold maxLen; omega) (by omega) (by rw [World.size_alloc]; omega) ?_; intro v3 w3 hown3 hgrow3; rw [Nat.zero_add, List.nil_append] at hown3; have hb3 : Below W2.heap.size W2 w3 := ((Below.refl _ W2).alloc (Nat.le_refl _) _).grown hgrow3 (by rw [World.size_alloc]; omega) (fun j hj => by simp only [Value.ownBlock] at hj; injection hj with hj; omega); have HO3 := hide hown3; have HB3 := hide hb3; clear hown3 hgrow3 hb3)
              | (at_builtin; refine wpList_append_own _ rfl (.tmp 75) (.tmp 79) 40 rfl W2.heap.size 50 iW (.agg #[.int .i64 0, .string ByteArray.empty]) 2 24 Try.underlying40 hiW zW0 zW1 zW2 rfl (by decide) v3 d.R.length (wcs d.R) rfl (HO3.out.alloc _) ⟨w3.heap.size, 0, none⟩ 1 1 [.int .i64 k, .string data] rfl rfl (two_new _ _ _ _) (by intro u hu; simp at hu; rcases hu with rfl | rfl <;> rfl) (by unfold maxLen; omega) (by omega) (by rw [World.size_alloc]; have := HB3.out.size; omega) ?_; intro v4 w4 hown4 hgrow4 _; have hb4 : Below W2.heap.size W2 w4 := (HB3.out.alloc HB3.out.size _).grown hgrow4 (by rw [World.size_alloc]; have := HB3.out.size; omega) (fun j hj => (HO3.out.lt j hj).1); obtain ⟨ad4, cap4, rfl⟩ := own_slice hown4; have HO4 := hide hown4; have HB4 := hide hb4; have g1 := ((HP1.out.keep (w' := w4) (fun j hj => hb4.block j (hj.elim (fun e => by rw [e]; exact HP1.out.lt) (fun hg => (HP1.out.glt j hg).2)))).c1); have g2 := ((HP1.out.keep (w' := w4) (fun j hj => hb4.block j (hj.elim (fun e => by rw [e]; exact HP1.out.lt) (fun hg => (HP1.out.glt j hg).2)))).z); clear hown4 hgrow4 hb4))
            have hQ := rk_putR (x := ⟨k, data⟩) HP1.out HB4.out HO4.out HOK.out
            obtain ⟨ab4, hQ1, hQ2, hQ3⟩ := hQ
            have HQ1 := hide hQ1
            have HQ2 := hide hQ2
            have HQ3 := hide hQ3
            clear hQ1 hQ2 hQ3 g1 g2
            go_wp2_with fail
            go_ret
            exact ⟨rfl, Gd ab2 ab4 _, ⟨_, _, _, _, _, _, HQ1.out, rfl⟩, HM1.out.trans (HP2.out.trans HQ2.out), gd_newR (by have := HAB2.out; have := HWS.out; omega) (by have := HQ3.out; have := HW2s.out; have := HWS.out; omega)⟩
          · rw [if_neg (by omega)] at HOK ⊢
            have b4 : decide (1 < d.left) = false := by simpa using hp
            have HLa := hide (laid_any (cap := cS) (b := 128) h.rs h.ok.s128 (show d.S.length ≤ 8796093021952 by omega) hk hz (by omega))
            rw [hxx] at HLa
            have H1 := hide h
            clear h hk hxx same hd
            go_enter Try.func45, Try.ntmps45
            go_wp2_with fail
            refine HLa.out.mono ?_
            rintro e w2 ⟨ad2, cap2, ab2, rfl, hr2, hab2, hb2⟩
            have hP := rk_putS (d' := { d with S := layS d.S k.toNat data }) (c' := cap2) H1.out hb2 hr2 hab2 (layS_len _ _ _) rfl rfl rfl rfl ⟨HOK.out.s128, HOK.out.l0, HOK.out.l1, HOK.out.b0, HOK.out.b1, HOK.out.s0, HOK.out.s1⟩
            have hz0 := (show RkV _ _ _ _ _ _ _ _ _ _ from H1.out.keep (fun j hj => hb2.block j (hj.elim (fun e => by rw [e]; exact H1.out.lt) (fun hg => (H1.out.glt j hg).2))))
            have kc0 : w2.cell? ⟨c, 0, none⟩ = some (.slice adS d.S.length cS) := hz0.c0
            have kz0 := hz0.z
            have HP1 := hide hP.1
            have HP2 := hide hP.2
            have HAB2 : Hid (w.heap.size ≤ ab2) := hab2
            clear hP hz0 hr2 hab2 hb2 HLa c0 c1 c2 c3 c4 z
            go_upto_region 14 with fail
            clear kc0 kz0
            have HW2s : Hid (w.heap.size ≤ (w2.setCell ⟨c, 0, none⟩ (.slice ad2 d.S.length cap2)).heap.size) := HP2.out.size
            generalize w2.setCell ⟨c, 0, none⟩ (.slice ad2 d.S.length cap2) = W2 at *
            have f1 : ∀ o, (W2.alloc o).cell? ⟨c, 1, none⟩ = some (.slice adR d.R.length cR) := fun o => Lib.cell?_alloc_some o HP1.out.c1
            have HRR : Hid (Rw W2 adR abR 0 d.R) := HP1.out.rr
            go_upto_region 15 with (first
              | (at_builtin; refine wpList_append_read rfl (.tmp 70) (.tmp 74) 40 rfl W2.heap.size 50 iW (.agg #[.int .i64 0, .string ByteArray.empty]) 2 24 Try.underlying40 hiW zW0 zW1 zW2 rfl (by decide) (.slice (some ⟨W2.heap.size, 0, none⟩) 0 0) 0 [] rfl (World.ownsRow_made W2 #[] 0 (Nat.le_refl _) (by decide) rfl) adR d.R.length cR (wcs d.R) rfl (wcs_len _) HRR.out.none (fun a0 ha j u hu => Lib.cell?_alloc_some _ (HRR.out.src a0 ha j u hu)) (wcs_ones _) (by unfold maxLen; omega) (by omega) (by rw [World.size_alloc]; omega) ?_; intro v3 w3 hown3 hgrow3; rw [Nat.zero_add, List.nil_append] at hown3; have hb3 : Below W2.heap.size W2 w3 := ((Below.refl _ W2).alloc (Nat.le_refl _) _).grown hgrow3 (by rw [World.size_alloc]; omega) (fun j hj => by simp only [Value.ownBlock] at hj; injection hj with hj; omega); have HO3 := hide hown3; have HB3 := hide hb3; clear hown3 hgrow3 hb3)
              | (at_builtin; refine wpList_append_own _ rfl (.tmp 75) (.tmp 79) 40 rfl W2.heap.size 50 iW (.agg #[.int .i64 0, .string ByteArray.empty]) 2 24 Try.underlying40 hiW zW0 zW1 zW2 rfl (by decide) v3 d.R.length (wcs d.R) rfl (HO3.out.alloc _) ⟨w3.heap.size, 0, none⟩ 1 1 [.int .i64 k, .string data] rfl rfl (two_new _ _ _ _) (by intro u hu; simp at hu; rcases hu with rfl | rfl <;> rfl) (by unfold maxLen; omega) (by omega) (by rw [World.size_alloc]; have := HB3.out.size; omega) ?_; intro v4 w4 hown4 hgrow4 _; have hb4 : Below W2.heap.size W2 w4 := (HB3.out.alloc HB3.out.size _).grown hgrow4 (by rw [World.size_alloc]; have := HB3.out.size; omega) (fun j hj => (HO3.out.lt j hj).1); obtain ⟨ad4, cap4, rfl⟩ := own_slice hown4; have HO4 := hide hown4; have HB4 := hide hb4; have g1 := ((HP1.out.keep (w' := w4) (fun j hj => hb4.block j (hj.elim (fun e => by rw [e]; exact HP1.out.lt) (fun hg => (HP1.out.glt j hg).2)))).c1); have g2 := ((HP1.out.keep (w' := w4) (fun j hj => hb4.block j (hj.elim (fun e => by rw [e]; exact HP1.out.lt) (fun hg => (HP1.out.glt j hg).2)))).z); clear hown4 hgrow4 hb4))
            have hQ := rk_putR (x := ⟨k, data⟩) HP1.out HB4.out HO4.out HOK.out
            obtain ⟨ab4, hQ1, hQ2, hQ3⟩ := hQ
            have HQ1 := hide hQ1
            have HQ2 := hide hQ2
            have HQ3 := hide hQ3
            clear hQ1 hQ2 hQ3 g1 g2
            go_wp2_with fail
            go_ret
            exact ⟨rfl, Gd ab2 ab4 _, ⟨_, _, _, _, _, _, HQ1.out, rfl⟩, (Mv.refl w).trans (HP2.out.trans HQ2.out), gd_newR HAB2.out (by have := HQ3.out; have := HW2s.out; omega)⟩
      · rw [DS.write_size hd hk hz]
        have b2 : ((data.size : Int) == 128) = false := by simp; omega
        have H := hide h
        clear h hk
        go_enter Try.func45, Try.ntmps45
        go_wp2_with fail
        go_ret
        exact ⟨rfl, _, ⟨_, _, _, _, _, _, H.out, rfl⟩, Mv.refl _, same⟩
    · rw [DS.write_none hd hk]
      have H := hide h
      by_cases h0 : k < 0
      · have b0 : decide (k < 0) = true := by simpa using h0
        clear h hk h0
        go_enter Try.func45, Try.ntmps45
        go_wp2_with fail
        go_ret
        exact ⟨rfl, _, ⟨_, _, _, _, _, _, H.out, rfl⟩, Mv.refl _, same⟩
      · have b0 : decide (k < 0) = false := by simpa using h0
        have b1 : decide ((d.S.length : Int) ≤ k) = true := by simp; omega
        clear h hk h0
        go_enter Try.func45, Try.ntmps45
        go_wp2_with fail
        go_ret
        exact ⟨rfl, _, ⟨_, _, _, _, _, _, H.out, rfl⟩, Mv.refl _, same⟩
  · rw [hd] at c4
    rw [DS.write_dead hd]
    have H := hide h
    clear h
    go_enter Try.func45, Try.ntmps45
    go_wp2_with fail
    go_ret
    exact ⟨rfl, _, ⟨_, _, _, _, _, _, H.out, rfl⟩, Mv.refl _, same⟩
end Go.Proofs.Ytnhibcadenmglaa
