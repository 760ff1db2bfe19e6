import Derived.Test.YtjabnddjahhgoaaRcS
namespace Go.Proofs.Ytjabnddjahhgoaa
open Go.RowKit
open Rc (L V Ch)

/-- a new row in memory -/
structure RowN (w0 : World) (A : Nat) (vals : List (Ch × Value)) (w : World) : Prop where
  ch : w.heap[A]? = some (.cells (flatV vals).toArray 29 (0, 0))
  own : ∀ x ∈ vals, w.ownsRow w0.heap.size 9 1 x.2 x.1.tx.length (strs x.1.tx)
  hA : w0.heap.size ≤ A
  bel : Below w0.heap.size w0 w
def DPost (w0 : World) (x : Option (List Ch)) (e : Ending) (w' : World) : Prop :=
  match x with
  | some l => ∃ A vals, e = .returned (.slice (some ⟨A, 0, none⟩) vals.length vals.length) ∧ vals.map Prod.fst = l ∧ RowN w0 A vals w'
  | none => Gives e 83 ∧ RdQ w0 w'
theorem made_chs (n : Nat) : madeCells (chC (Rc.zC 0) (.slice none 0 0)) (n * 10) = (flatV [] ++ zs n).toArray := by
  have hzl : ∀ m, (zs m).length = m * 10 := by
    intro m
    induction m with
    | zero => rfl
    | succ m ih => rw [zs_succ, List.length_append, ih]; simp [zc, chC]; omega
  have hz : ∀ m i, i < m * 10 → (zs m)[i]? = (chC (Rc.zC 0) (.slice none 0 0))[i % 10]? := by
    intro m
    induction m with
    | zero => intro i h; omega
    | succ m ih =>
      intro i h
      rw [zs_succ]
      by_cases h10 : i < 10
      · rw [List.getElem?_append_left (by simpa [zc, chC] using h10), Nat.mod_eq_of_lt h10]; simp [zc]
      · have hl : zc.length = 10 := rfl
        rw [List.getElem?_append_right (by omega), hl, ih _ (by omega)]
        congr 1; omega
  apply Array.ext_getElem?
  intro i
  by_cases hi : i < n * 10
  · have h2 : i % 10 < (chC (Rc.zC 0) (.slice none 0 0)).size := by simp [chC]; omega
    simp only [flatV, List.flatMap_nil, List.nil_append, List.getElem?_toArray]
    rw [hz n i hi]
    have hs : (chC (Rc.zC 0) (.slice none 0 0)).size = 10 := rfl
    simp only [madeCells]
    rw [Array.getElem?_map, Array.getElem?_range, if_pos hi, Option.map_some, hs, getElem!_pos (chC (Rc.zC 0) (.slice none 0 0)) (i % 10) h2, Array.getElem?_eq_getElem h2]
  · rw [Array.getElem?_eq_none (by rw [size_madeCells]; omega), Array.getElem?_eq_none (by simp [flatV, hzl]; omega)]
theorem rCs_go {b : ByteArray} {n q q' : Nat} {c : Ch} (h : Rc.rC b q = some (c, q')) : Rc.rCs b (n + 1) q = (Rc.rCs b n q').map fun y => (c :: y.1, y.2) := by rw [Rc.rCs, h]; rfl
theorem rCs_no {b : ByteArray} {n q : Nat} (h : Rc.rC b q = none) : Rc.rCs b (n + 1) q = none := by rw [Rc.rCs, h]; rfl
set_option maxHeartbeats 1600000 in
theorem readRow_any (b : ByteArray) (hb : b.size ≤ 140737488351232) (w : World) : Calls Try.prog 19 #[.string b] w (DPost w (Rc.deco b)) := by
  obtain ⟨i0, hi0, hz0, hz1, hz2⟩ := info_parts Try.infoC
  generalize hE : Rc.deco b = E
  unfold Rc.deco at hE
  have HE := hide hE
  clear hE
  have HRD := hide (read_any b w)
  go_enter Try.func19, Try.ntmps19
  go_wp2_with fail
  refine HRD.out.mono ?_
  rintro e w2 ⟨rfl, hR2, hb2⟩
  generalize hBB : w.heap.size = B at *
  have hlt := lt_of_block hR2
  have hR3 := hR2.alloc (.cells #[.pointer (some ⟨B, 0, none⟩)] 68)
  have hB3 : Below B w (w2.alloc (.cells #[.pointer (some ⟨B, 0, none⟩)] 68)) := hb2.alloc (by omega) _
  have hX3 : Bo (w2.alloc (.cells #[.pointer (some ⟨B, 0, none⟩)] 68)) w2.heap.size B := heap_alloc_new w2 _
  have HR3 := hide hR3
  have HB3 := hide hB3
  have HX3 := hide hX3
  clear HRD hR2 hb2 hR3 hB3 hX3
  by_cases hs : b.size ≤ 2048
  case neg =>
    have hd : decide ((b.size : Int) ≤ 2048) = false := by simp; omega
    have HN := hide (need_no HR3.out false (.inr rfl))
    unfold rvB at HN
    go_wp2_with fail
    refine HN.out.mono ?_
    rintro e w4 ⟨he, hb4⟩
    have hE := HE.out
    rw [if_neg hs] at hE
    have HQ : Hid (RdQ w w4) := hide (by unfold RdQ; rw [hBB]; exact HB3.out.trans (hb4.mono (by have := HB3.out.size; omega)))
    unfold Gives at he
    subst he
    clear HN HE
    go_wp2
    refine ⟨rfl, ?_⟩
    subst hE
    exact ⟨rfl, HQ.out⟩
  have hd : decide ((b.size : Int) ≤ 2048) = true := by simp; omega
  have HN := hide (need_ok HR3.out)
  unfold rvB at HN
  go_wp2_with fail
  refine HN.out.mono ?_
  rintro e w4 ⟨rfl, hb4⟩
  have hE := HE.out
  rw [if_pos hs] at hE
  have HE4 := hide hE
  have hR4 := rd_below HR3.out hb4
  have HR4 := hide hR4
  have HB4 := hide (HB3.out.trans (hb4.mono (by have := HB3.out.size; omega)))
  have hX4 : Bo w4 w2.heap.size B := (hb4.block _ (lt_of_block HX3.out)).trans HX3.out
  have HX4 := hide hX4
  have cX := hX4.c
  have nXB : w2.heap.size ≠ B := blk_ne hX4 hR4 (by decide)
  have HM := hide (rnumber_any (p := 0) hR4 (Nat.zero_le _) hb 1 16 (by decide))
  unfold rvB at HM
  clear HN HE hE HR3 HB3 HX3 hb4 hR4 hX4 hd hs
  go_wp2_with fail
  refine HM.out.mono ?_
  intro e w5 hP
  cases hr : Rc.rN b 1 16 0 with
  | none =>
    rw [hr] at hP
    obtain ⟨he, hg⟩ := hP
    have HQ : Hid (RdQ w w5) := hide (by unfold RdQ; rw [hBB]; exact HB4.out.trans ⟨hg.os, hg.tape, hg.output, hg.size, fun k hk => hg.block _ (Nat.lt_of_lt_of_le hk (by have := HB4.out.size; omega)) (by simp; omega)⟩)
    have hE := HE4.out
    rw [hr, Option.bind_none] at hE
    unfold Gives at he
    subst he
    clear HM HE4 hg
    go_wp2
    refine ⟨rfl, ?_⟩
    subst hE
    exact ⟨rfl, HQ.out⟩
  | some y =>
  obtain ⟨n, q⟩ := y
  obtain ⟨hq, hn1, hn16, -⟩ := Rc.rN_form (Nat.zero_le _) hr
  rw [hr] at hP
  obtain ⟨⟨rfl, hR5⟩, hg⟩ := hP
  have hE := HE4.out
  rw [hr, Option.bind_some] at hE
  simp only at hE
  have HE5 := hide hE
  have hmk : (Instr.makeSlice 22 (.int .i64 (n : Int)) (.int .i64 (n : Int))).run Try.prog w5 = .ok (.slice (some ⟨w5.heap.size, 0, none⟩) n n) (w5.alloc (.cells (madeCells (chC (Rc.zC 0) (.slice none 0 0)) (n * 10)) 29)) := by
    have := run_make (P := Try.prog) w5 22 29 i0 _ Try.underlying22 hi0 hz0 .i64 .i64 (n : Int) (n : Int) (by omega) (Int.le_refl _) (by rw [hz2]; omega) (by omega)
    rw [Int.toNat_natCast, hz1] at this
    exact this
  have HI : Hid (RwI w w5.heap.size B w2.heap.size b q [] n (w5.alloc (.cells (madeCells (chC (Rc.zC 0) (.slice none 0 0)) (n * 10)) 29))) := hide (by
    have hB5 : Below w.heap.size w w5 := by rw [hBB]; exact HB4.out.trans ⟨hg.os, hg.tape, hg.output, hg.size, fun k hk => hg.block _ (Nat.lt_of_lt_of_le hk (by have := HB4.out.size; omega)) (by simp; omega)⟩
    refine ⟨hR5.alloc _, hq, by rw [heap_alloc_new, made_chs], by simp, (Below.heap_alloc _ _ _ (Nat.lt_of_lt_of_le (lt_of_block HX4.out) hg.size)).trans (HX4.out.grown nXB hg), hB5.alloc hB5.size _, hB5.size, by omega⟩)
  clear HM HE4 hg hR5 hE HX4 HB4 HR4 hr cX
  go_wp2_with fail
  generalize hAA : w5.heap.size = A at *
  generalize hXX : w2.heap.size = X0 at *
  generalize w5.alloc (.cells (madeCells (chC (Rc.zC 0) (.slice none 0 0)) (n * 10)) 29) = w6 at *
  go_loopw [19] (fun s wr => ∃ (k : Nat) (q' : Nat) (vals : List (Ch × Value)), k ≤ n ∧ s = .int .i64 (k : Int) ∧ vals.length = k ∧ Hid (Rc.rCs b n q = (Rc.rCs b (n - k) q').map fun y => (vals.map Prod.fst ++ y.1, y.2)) ∧ Hid (RwI w A B X0 b q' vals (n - k) wr)) (fun s _ => n - (intOf s).toNat)
  case atStart => exact ⟨0, q, [], Nat.zero_le _, rfl, rfl, hide (by cases Rc.rCs b (n - 0) q <;> rfl), HI⟩
  case round =>
    obtain ⟨k, q', vals, hk, rfl, hdl, HR, HK⟩ := hrel
    have hfl := flatV_len vals
    rw [hdl] at hfl
    by_cases hkl : k < n
    · have hki : (k : Int) < (n : Int) := by omega
      have cXr := HK.out.bo.c
      obtain ⟨m, hm⟩ : ∃ m, n - k = m + 1 := ⟨n - k - 1, by omega⟩
      rw [hm] at HR HK
      have HM := hide (rnumber_any HK.out.rd HK.out.hp hb 1 6 (by decide))
      unfold rvB at HM
      go_wp2_with fail
      refine HM.out.mono ?_
      intro e w7 hP
      cases hr : Rc.rN b 1 6 q' with
      | none =>
        rw [hr] at hP
        obtain ⟨he, hg⟩ := hP
        have HQ := hide (HK.out.giveG hg)
        have HE6 : Hid (E = none) := hide (by rw [← HE5.out, HR.out, rCs_no (by rw [Rc.rC, hr]; rfl)]; rfl)
        unfold Gives at he
        subst he
        clear HM HE5 hg HK HR
        go_wp2
        refine ⟨rfl, ?_⟩
        rw [HE6.out]
        exact ⟨rfl, HQ.out⟩
      | some y =>
      obtain ⟨K, q2⟩ := y
      obtain ⟨hq2, hK1, hK6, -⟩ := Rc.rN_form HK.out.hp hr
      rw [hr] at hP
      obtain ⟨⟨rfl, hR7⟩, hg⟩ := hP
      have h7 := HK.out.grown hg hR7 hq2
      obtain ⟨ck, zk⟩ := h7.k0
      have h8 := h7.start (K : Int)
      have hbo8 : Bo (w7.setCell ⟨A, (flatV vals).length, none⟩ (.int .i64 (K : Int))) X0 B := h7.bo.set (blk_ne h7.bo h7.ch (by decide)) _
      have cX8 := hbo8.c
      have HV := hide (fun (W : World) (hW : Below (w7.setCell ⟨A, (flatV vals).length, none⟩ (.int .i64 (K : Int))).heap.size (w7.setCell ⟨A, (flatV vals).length, none⟩ (.int .i64 (K : Int))) W) => rvisit_any (h8.below hW) hb (show 1 ≤ (Rc.zC (K : Int)).k ∧ (Rc.zC (K : Int)).k ≤ 6 by simp only [Rc.zC]; omega))
      have HNX := hide (fun (q3 : Nat) (c : Ch) (W : World) (hW : RdI w (w7.setCell ⟨A, (flatV vals).length, none⟩ (.int .i64 (K : Int))) A B b (flatV vals) (zs m) (q3, c) W) => h7.next hW)
      have HRC : Hid (Rc.rC b q' = Rc.rFs b (Rc.letters (K : Int)) q2 (Rc.zC (K : Int))) := hide (by rw [Rc.rC, hr]; rfl)
      unfold rvB at HV
      simp only [hfl] at ck zk HV cX8 HNX
      clear HM hg hR7 HK hr h7 h8 hbo8
      go_wp2_with fail
      generalize w7.setCell ⟨A, k * 10, none⟩ (.int .i64 (K : Int)) = w8 at *
      have hd8 : Below w8.heap.size w8 w8.drew := (Below.refl _ _).drew
      refine wp_region_held_drew (S := fun w' => w'.cell? ⟨X0, 0, none⟩ = some (.pointer (some ⟨B, 0, none⟩))) (by kernel_rfl) cX8 (fun hHeld => ?_)
      refine wpAnyH_take (i := 0) (v := .slice (some ⟨A, 0, none⟩) n n) rfl (by kernel_rfl) (by kernel_rfl) (by kernel_rfl) (fun _ _ _ h => h) (Or.inl ⟨by rfl, fun w1 hSw => by have hS1 := hSw; clear hHeld; go_simp⟩) hHeld ?_
      simp only [Act.put, List.setIfInBounds_toArray]
      refine wpAnyH_take (i := 1) (v := .int .i64 (k : Int)) rfl (by kernel_rfl) (by kernel_rfl) (by kernel_rfl) (fun _ _ _ h => h) (Or.inl ⟨by rfl, fun w1 hSw => by have hS1 := hSw; clear hHeld; go_simp⟩) hHeld ?_
      simp only [Act.put]
      refine wpAnyH_take (i := 2) (v := .pointer (some ⟨A, k * 10, none⟩)) rfl (by kernel_rfl) (by kernel_rfl) (by kernel_rfl) (fun _ _ _ h => h) (Or.inl ⟨by rfl, fun w1 hSw => by have hS1 := hSw; clear hHeld; go_simp⟩) hHeld ?_
      simp only [Act.put]
      refine wpAnyH_take (i := 3) (v := .agg #[.pointer (some ⟨B, 0, none⟩)]) rfl (by kernel_rfl) (by kernel_rfl) (by kernel_rfl) (fun _ _ _ h => h) (Or.inl ⟨by rfl, fun w1 hSw => by have hS1 := hSw; clear hHeld; go_simp⟩) hHeld ?_
      simp only [Act.put]
      refine wpAnyH_take (i := 4) (v := .iface 68 (.agg #[.pointer (some ⟨B, 0, none⟩)])) rfl (by kernel_rfl) (by kernel_rfl) (by kernel_rfl) (fun _ _ _ h => h) (Or.inl ⟨by rfl, fun w1 hSw => by have hS1 := hSw; clear hHeld; go_simp⟩) hHeld ?_
      simp only [Act.put]
      refine wpAnyH_ready (rs := [5]) (by kernel_rfl) (by simp) ?_
      refine AllReadyH.cons rfl (fun KK hKK => ?_) AllReadyH.nil
      go_simp
      refine (HV.out _ hd8).mono ?_
      intro e w9 hVP
      cases hrf : Rc.rFs b (Rc.letters (K : Int)) q2 (Rc.zC (K : Int)) with
      | none =>
        have hVP2 : Gives e 83 ∧ RdQ w w9 := by
          have := hVP
          simp only [show (Rc.zC (K : Int)).k = (K : Int) from rfl, hrf] at this; exact this
        obtain ⟨he, hQ⟩ := hVP2
        have HE6 : Hid (E = none) := hide (by rw [← HE5.out, HR.out, rCs_no (by rw [HRC.out, hrf])]; rfl)
        unfold Gives at he
        subst he
        refine ⟨rfl, ?_⟩
        rw [HE6.out]
        exact ⟨rfl, hQ⟩
      | some x =>
        obtain ⟨c, q3⟩ := x
        have hVP2 : e = .returned (.tuple #[]) ∧ RdI w w8 A B b (flatV vals) (zs m) (q3, c) w9 := by
          have := hVP
          simp only [show (Rc.zC (K : Int)).k = (K : Int) from rfl, hrf] at this; exact this
        obtain ⟨rfl, hI9⟩ := hVP2
        obtain ⟨t, h10⟩ := HNX.out _ _ _ hI9
        have H10 := hide h10
        have HR2 : Hid (Rc.rCs b n q = (Rc.rCs b m q3).map fun y => ((vals ++ [(c, t)]).map Prod.fst ++ y.1, y.2)) := hide (by rw [HR.out, rCs_go (by rw [HRC.out, hrf])]; cases Rc.rCs b m q3 <;> simp)
        refine hKK.out _ _ h10.bo.c (fun hHeld => ?_)
        refine wpAnyH_done (by kernel_rfl) ?_ _
        clear HV HNX HRC HR hI9 h10 hVP hrf
        go_wp2
        go_roundw
        case rel => exact ⟨k + 1, q3, vals ++ [(c, t)], by omega, by go_num, by simp [hdl], by rw [show n - (k + 1) = m by omega]; exact HR2, by rw [show n - (k + 1) = m by omega]; exact H10⟩
        case measure => simp [intOf]; omega
    · obtain rfl : k = n := by omega
      have hki : ¬ (k : Int) < (k : Int) := by omega
      rw [Nat.sub_self] at HR HK
      have hE := HE5.out
      rw [HR.out] at hE
      simp only [Rc.rCs, Option.map_some, Option.bind_some, List.append_nil] at hE
      have HE7 := hide hE
      have cXr := HK.out.bo.c
      clear HR HE5 hE
      have hp0 := HK.out.hp
      have HL := hide (fun (W : World) (hW : Below wr.heap.size wr W) => left_any (HK.out.below hW).rd (by omega) (by omega) hb)
      have hd1 : Below wr.heap.size wr wr.drew := (Below.refl _ _).drew
      by_cases hqe : q' = b.size
      · have hb0 : ((b.size : Int) - (q' : Int) == 0) = true := by simp; omega
        have hE := HE7.out
        rw [if_pos hqe] at hE
        have HE8 := hide hE
        clear hE HE7
        have HF : Hid (∀ w9, Below wr.heap.size wr w9 → RowN w A vals w9) := hide fun w9 h9 => by
          have := HK.out.below h9
          exact ⟨by have h2 := this.ch; simpa [zs] using h2, this.own, this.hA, this.bel⟩
        go_wp2_with fail
        refine wp_region_held_drew (S := fun w' => w'.cell? ⟨X0, 0, none⟩ = some (.pointer (some ⟨B, 0, none⟩))) (by kernel_rfl) cXr (fun hHeld => ?_)
        refine wpAnyH_take (i := 0) (v := .agg #[.pointer (some ⟨B, 0, none⟩)]) rfl (by kernel_rfl) (by kernel_rfl) (by kernel_rfl) (fun _ _ _ h => h) (Or.inl ⟨by rfl, fun w1 hSw => by have hS1 := hSw; clear hHeld; go_simp⟩) hHeld ?_
        simp only [Act.put, List.setIfInBounds_toArray]
        refine wpAnyH_take (i := 1) (v := .pointer (some ⟨X0, 0, none⟩)) rfl (by kernel_rfl) (by kernel_rfl) (by kernel_rfl) (fun _ _ _ h => h) (Or.inl ⟨by rfl, fun w1 hSw => by have hS1 := hSw; clear hHeld; go_simp⟩) hHeld ?_
        simp only [Act.put]
        refine wpAnyH_take (i := 2) (v := .pointer (some ⟨B, 0, none⟩)) rfl (by kernel_rfl) (by kernel_rfl) (by kernel_rfl) (fun _ _ _ h => h) (Or.inl ⟨by rfl, fun w1 hSw => by have hS1 := hSw; clear hHeld; go_simp⟩) hHeld ?_
        simp only [Act.put]
        refine wpAnyH_ready (rs := [3]) (by kernel_rfl) (by simp) ?_
        refine AllReadyH.cons rfl (fun K2 hK2 => ?_) AllReadyH.nil
        go_simp
        refine (HL.out _ hd1).mono ?_
        rintro e wn ⟨rfl, nn, hwn⟩
        have hbn : Below wr.heap.size wr wn := by rw [hwn]; exact hd1.trans (show Below wr.heap.size wr.drew (wr.drew.drewN nn) from drewN_below wr.drew nn)
        clear hwn
        have hRn := (HK.out.below hbn).rd
        refine hK2.out _ _ ((hbn.cell (p := ⟨X0, 0, none⟩) (World.block_lt_of_cell? _ _ cXr)).trans cXr) (fun hHeld => ?_)
        refine wpAnyH_take (i := 4) (v := .bool (((b.size : Int) - (q' : Int)) == 0)) rfl (by kernel_rfl) (by kernel_rfl) (by kernel_rfl) (fun _ _ _ h => h) (Or.inl ⟨by rfl, fun w1 hSw => by clear hHeld hb0; go_simp⟩) hHeld ?_
        simp only [Act.put]
        rw [hb0]
        refine wpAnyH_ready (rs := [5]) (by kernel_rfl) (by simp) ?_
        refine AllReadyH.cons rfl (fun K3 hK3 => ?_) AllReadyH.nil
        go_simp
        refine (need_ok hRn).mono ?_
        rintro e w9 ⟨rfl, hb9⟩
        have hb09 := hbn.trans (hb9.mono hbn.size)
        have HF2 := hide (HF.out _ hb09)
        refine hK3.out _ _ ((hb09.cell (p := ⟨X0, 0, none⟩) (World.block_lt_of_cell? _ _ cXr)).trans cXr) (fun hHeld => ?_)
        refine wpAnyH_done (by kernel_rfl) ?_ _
        clear HL HK HF hb9 hb09 hRn hbn
        go_wp2
        go_ret
        unfold DPost
        rw [← HE8.out]
        exact ⟨A, vals, by rw [hdl]; rfl, rfl, HF2.out⟩
      · have hb0 : ((b.size : Int) - (q' : Int) == 0) = false := by simp; omega
        have hE := HE7.out
        rw [if_neg hqe] at hE
        have HE8 := hide hE
        clear hE HE7
        go_wp2_with fail
        refine wp_region_held_drew (S := fun w' => w'.cell? ⟨X0, 0, none⟩ = some (.pointer (some ⟨B, 0, none⟩))) (by kernel_rfl) cXr (fun hHeld => ?_)
        refine wpAnyH_take (i := 0) (v := .agg #[.pointer (some ⟨B, 0, none⟩)]) rfl (by kernel_rfl) (by kernel_rfl) (by kernel_rfl) (fun _ _ _ h => h) (Or.inl ⟨by rfl, fun w1 hSw => by have hS1 := hSw; clear hHeld; go_simp⟩) hHeld ?_
        simp only [Act.put, List.setIfInBounds_toArray]
        refine wpAnyH_take (i := 1) (v := .pointer (some ⟨X0, 0, none⟩)) rfl (by kernel_rfl) (by kernel_rfl) (by kernel_rfl) (fun _ _ _ h => h) (Or.inl ⟨by rfl, fun w1 hSw => by have hS1 := hSw; clear hHeld; go_simp⟩) hHeld ?_
        simp only [Act.put]
        refine wpAnyH_take (i := 2) (v := .pointer (some ⟨B, 0, none⟩)) rfl (by kernel_rfl) (by kernel_rfl) (by kernel_rfl) (fun _ _ _ h => h) (Or.inl ⟨by rfl, fun w1 hSw => by have hS1 := hSw; clear hHeld; go_simp⟩) hHeld ?_
        simp only [Act.put]
        refine wpAnyH_ready (rs := [3]) (by kernel_rfl) (by simp) ?_
        refine AllReadyH.cons rfl (fun K2 hK2 => ?_) AllReadyH.nil
        go_simp
        refine (HL.out _ hd1).mono ?_
        rintro e wn ⟨rfl, nn, hwn⟩
        have hbn : Below wr.heap.size wr wn := by rw [hwn]; exact hd1.trans (show Below wr.heap.size wr.drew (wr.drew.drewN nn) from drewN_below wr.drew nn)
        clear hwn
        have hRn := (HK.out.below hbn).rd
        refine hK2.out _ _ ((hbn.cell (p := ⟨X0, 0, none⟩) (World.block_lt_of_cell? _ _ cXr)).trans cXr) (fun hHeld => ?_)
        refine wpAnyH_take (i := 4) (v := .bool (((b.size : Int) - (q' : Int)) == 0)) rfl (by kernel_rfl) (by kernel_rfl) (by kernel_rfl) (fun _ _ _ h => h) (Or.inl ⟨by rfl, fun w1 hSw => by clear hHeld hb0; go_simp⟩) hHeld ?_
        simp only [Act.put]
        rw [hb0]
        refine wpAnyH_ready (rs := [5]) (by kernel_rfl) (by simp) ?_
        refine AllReadyH.cons rfl (fun K3 hK3 => ?_) AllReadyH.nil
        go_simp
        refine (need_no hRn _ (.inr rfl)).mono ?_
        rintro e w9 ⟨he, hb9⟩
        have hQ : RdQ w w9 := (HK.out.below (hbn.trans (hb9.mono hbn.size))).bel
        unfold Gives at he
        subst he
        refine ⟨rfl, ?_⟩
        unfold DPost
        rw [← HE8.out]
        exact ⟨rfl, hQ⟩

end Go.Proofs.Ytjabnddjahhgoaa
