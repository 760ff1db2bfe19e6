import Derived.Test.YtjkkjijlblfgaaaGreatDoorMgBB
import Derived.Test.YtjkkjijlblfgaaaGreatDoorMgBC
import Derived.Deep.AppendLies
import Derived.BigRegion

section
namespace Go.Proofs.YtjkkjijlblfgaaaGreatDoor
open Go.RowKit Go.Shelf

theorem rq_new (w : World) (b : ByteArray) : Rq (w.alloc (.cells #[.string b, .int .i64 0, .int .i64 0, .int .i64 0] 59)) w.heap.size b (0, 0) := by
  have h := heap_alloc_new w (.cells #[.string b, .int .i64 0, .int .i64 0, .int .i64 0] 59)
  exact ⟨⟨_, h⟩, by unfold World.cell?; rw [h]; rfl, by unfold World.cell?; rw [h]; rfl, by unfold World.cell?; rw [h]; rfl, by unfold World.cell?; rw [h]; rfl⟩
theorem Prg.far {base P G : Nat} {w w' : World} {f : Int} {v : Value} {xs : List In} (h : Prg base P w f v xs) (g : w.grownBy w' (some G)) (hG : G ≠ P) (hv : v.ownBlock ≠ some G) : Prg base P w' f v xs :=
  ⟨h.blk.grown g (by simp; omega), own_grown h.row g (fun k hk e => by injection e with e; subst e; exact hv hk), h.apt, h.low⟩
theorem Prg.one {base P : Nat} {w : World} {f : Int} {v : Value} {xs : List In} (h : Prg base P w f v xs) (o : Obj) : Prg base P (w.alloc o) f v xs := h.keep (below_one w o)
theorem rins_le (b : ByteArray) (op : Int) (ho : 0 ≤ op ∧ op ≤ 24) (h : Nat × Bool × Bool) (s : Nat × Nat) (hs : s.1 ≤ b.size) : (Pg.rfS b op h s).1.Fits ∧ (Pg.rfS b op h s).2.1 ≤ b.size := by
  have h1 := rs_le b s hs h.1
  have h2 := rn_le b h.2.1 _ h1
  have h3 := rk_le b h.2.2 _ h2.1
  have h4 : ∀ i, 0 ≤ Pg.ra b s h.1 i ∧ Pg.ra b s h.1 i ≤ 7 := fun i => by
    unfold Pg.ra Pg.rv
    have := (numS_le b 7 _ (rs_le b s hs i)).1
    split <;> omega
  have := h4 0; have := h4 1; have := h4 2
  refine ⟨⟨?_, ?_, ?_, ?_, ?_, h3.2⟩, h3.1⟩
  · show _ ≤ op ∧ op ≤ _; omega
  · show _ ≤ Pg.ra b s h.1 0 ∧ Pg.ra b s h.1 0 ≤ _; omega
  · show _ ≤ Pg.ra b s h.1 1 ∧ Pg.ra b s h.1 1 ≤ _; omega
  · show _ ≤ Pg.ra b s h.1 2 ∧ Pg.ra b s h.1 2 ≤ _; omega
  · show _ ≤ ((Pg.rn b h.2.1 (Pg.rs b s h.1)).1 : Int) ∧ ((Pg.rn b h.2.1 (Pg.rs b s h.1)).1 : Int) ≤ _; omega
theorem rmany_step (b : ByteArray) (n : Nat) (s : Nat × Nat) (acc : List In) (hs : s.2 = 0) : Pg.rmanyS b (n + 1) s acc = Pg.rmanyS b n (Pg.rinsS b s).2 (acc ++ [(Pg.rinsS b s).1]) := by
  show (if s.2 ≠ 0 then (acc, s) else _) = _
  rw [if_neg (by simp [hs])]
theorem rmany_end (b : ByteArray) (n : Nat) (s : Nat × Nat) (acc : List In) (hs : n = 0 ∨ s.2 ≠ 0) : Pg.rmanyS b n s acc = (acc, s) := by
  match n with
  | 0 => rfl
  | m + 1 =>
    show (if s.2 ≠ 0 then (acc, s) else _) = _
    rw [if_pos (hs.resolve_left (by omega))]
theorem has_three (op : Int) : (Pg.hasP op).1 ≤ 3 := by rcases has_all' op with e | e | e | e | e | e | e <;> rw [e] <;> decide
set_option maxRecDepth 20000 in
set_option maxHeartbeats 4000000 in
theorem runpack_any (b : ByteArray) (w : World) :
    Calls Tryz.prog 11 #[.string b] w fun e w' => ∃ v, e = .returned (.tuple #[.agg #[.int .i64 ((Pg.runpackS b).1.1 : Int), v], .int .i64 (Pg.runpackS b).2]) ∧ w'.ownsRow w.heap.size 48 6 v (Pg.runpackS b).1.2.length (Pg.flat (Pg.runpackS b).1.2) ∧ Below w.heap.size w w' := by
  obtain ⟨R, hRes⟩ : ∃ R, Pg.runpackS b = R := ⟨_, rfl⟩
  rw [hRes]
  unfold Pg.runpackS at hRes
  by_cases hlen : 1024 < b.size
  · rw [if_pos hlen] at hRes
    rw [← hRes]
    clear hRes
    go_enter Tryz.func11, Tryz.ntmps11
    go_wp2
    refine bodyPost_ret (by rw [results_cell_tmp rfl]; go_simp; rfl) rfl ?_
    exact ⟨_, rfl, World.ownsRow_nil _ _ _ _, below_one w _⟩
  rw [if_neg hlen] at hRes
  have hb : b.size ≤ 140737488351232 := by omega
  have hl1 := numS_le b 1024 (0, 0) (Nat.zero_le _)
  have HN := hide (fun w1 G (h1 : Rq w1 G b (0, 0)) => qnum_st (most := 1024) (s := (0, 0)) h1 (Nat.zero_le _) hb)
  unfold Pg.rrowS at hRes
  generalize Pg.numS b 1024 (0, 0) = F at *
  obtain ⟨F, sF⟩ := F
  have hl2 := listS_le b 64 sF hl1.2
  have HLs := hide (fun w1 G (h1 : Rq w1 G b sF) => qlist_st (most := 64) (by decide) h1 hl1.2 hb)
  simp only [] at hRes
  generalize Pg.listS b 64 sF = L at *
  obtain ⟨n, sL⟩ := L
  simp only [] at hRes
  have HRes := hide hRes
  clear hRes
  have hlt : ¬ (1024 : Int) < (b.size : Int) := by omega
  go_enter Tryz.func11, Tryz.ntmps11
  go_wp2_with fail
  have HR1 : Hid (Rq ((w.alloc (.cells #[.int .i64 0, .slice none 0 0] 24)).alloc (.cells #[.string b, .int .i64 0, .int .i64 0, .int .i64 0] 59)) (w.heap.size + 1) b (0, 0)) := by
    have h := rq_new (w.alloc (.cells #[.int .i64 0, .slice none 0 0] 24)) b
    rw [World.size_alloc] at h
    exact h
  have HZ1 : Hid (Pb ((w.alloc (.cells #[.int .i64 0, .slice none 0 0] 24)).alloc (.cells #[.string b, .int .i64 0, .int .i64 0, .int .i64 0] 59)) w.heap.size 0 (.slice none 0 0)) := (Pb.grown (heap_alloc_new w _) (grown_one _ _ none) (by simp))
  have HB1 : Hid (Below w.heap.size w ((w.alloc (.cells #[.int .i64 0, .slice none 0 0] 24)).alloc (.cells #[.string b, .int .i64 0, .int .i64 0, .int .i64 0] 59))) := (below_one w _).alloc (by simp) _
  generalize (w.alloc (.cells #[.int .i64 0, .slice none 0 0] 24)).alloc (.cells #[.string b, .int .i64 0, .int .i64 0, .int .i64 0] 59) = w1 at *
  refine (HN.out w1 (w.heap.size + 1) HR1.out).mono ?_
  rintro e w2 ⟨rfl, hR2, hg2⟩
  have HZ2 := hide (HZ1.out.grown hg2 (by simp))
  have HB2 : Hid (Below w.heap.size w w2) := HB1.out.grown hg2 HB1.out.size (fun k hk => by injection hk with hk; omega)
  have HR2 := hide hR2
  have hF : F ≤ 1024 := hl1.1
  have hl21 : w.heap.size + 1 < w2.heap.size := hR2.lt
  clear hR2 hg2 HZ1 HB1 HR1 HN
  go_wp2_with fail
  have HR3 := hide (HR2.out.grown (grown_one w2 (.cells #[.int .i64 (F : Int), .slice none 0 0] 24) none) (by simp))
  have HZ3 := hide (HZ2.out.grown (grown_one w2 (.cells #[.int .i64 (F : Int), .slice none 0 0] 24) none) (by simp))
  have HB3 := hide (HB2.out.alloc HB2.out.size (.cells #[.int .i64 (F : Int), .slice none 0 0] 24))
  have HP3 : Hid (Prg w.heap.size w2.heap.size (w2.alloc (.cells #[.int .i64 (F : Int), .slice none 0 0] 24)) (F : Int) (.slice none 0 0) []) := ⟨heap_alloc_new w2 _, World.ownsRow_nil _ _ _ _, fun g hg => (by cases hg), by omega⟩
  generalize w2.alloc (.cells #[.int .i64 (F : Int), .slice none 0 0] 24) = w3 at *
  refine (HLs.out w3 (w.heap.size + 1) HR3.out).mono ?_
  rintro e w4 ⟨rfl, hR4, hg4⟩
  have HR4 := hide hR4
  have HZ4 := hide (HZ3.out.grown hg4 (by simp))
  have HP4 := hide (HP3.out.far hg4 (by omega) (fun h => by cases h))
  have HB4 : Hid (Below w.heap.size w w4) := HB3.out.grown hg4 HB3.out.size (fun k hk => by injection hk with hk; omega)
  have hn64 : n ≤ 64 := hl2.1
  clear hR4 hg4 HR3 HZ3 HP3 HB3 HLs HR2 HZ2 HB2
  go_wp2_with fail
  go_loopw [7] (fun s7 wr => ∃ (k : Nat) (xs : List In) (s : Nat × Nat) (v : Value), k ≤ n ∧ xs.length = k ∧ s.1 ≤ b.size ∧ s7 = .int .i64 (k : Int) ∧ Hid (∀ x ∈ xs, x.Fits) ∧ Hid (Rq wr (w.heap.size + 1) b s) ∧ Hid (Pb wr w.heap.size 0 (.slice none 0 0)) ∧ Hid (Prg w.heap.size w2.heap.size wr (F : Int) v xs) ∧ Hid (Below w.heap.size w wr) ∧ Hid (Pg.rmanyS b n sL [] = Pg.rmanyS b (n - k) s xs)) (fun s _ => n - (intOf s).toNat)
  case atStart => exact ⟨0, [], sL, .slice none 0 0, Nat.zero_le _, rfl, hl2.2, rfl, (fun x hx => by cases hx), HR4, HZ4, HP4, HB4, rfl⟩
  case round =>
    obtain ⟨k, xs, s, v, hk, rfl, hs, rfl, HF, HR, HZ, HP, HB, HE⟩ := hrel
    clear HR4 HZ4 HP4 HB4
    have c2 := HR.out.c2
    obtain ⟨adv, capv, rfl⟩ := own_slice HP.out.row
    by_cases hgo : xs.length < n ∧ s.2 = 0
    · obtain ⟨hkn, hs2⟩ := hgo
      have hki : (xs.length : Int) < (n : Int) := by omega
      rw [hs2] at c2
      have HE2 : Hid (Pg.rmanyS b n sL [] = Pg.rmanyS b (n - (xs.length + 1)) (Pg.rinsS b s).2 (xs ++ [(Pg.rinsS b s).1])) := by
        refine HE.out.trans ?_
        rw [show n - xs.length = (n - (xs.length + 1)) + 1 by omega, rmany_step b _ s xs hs2]
      have HN := hide (fun w1 (h1 : Rq w1 (w.heap.size + 1) b s) => qnum_st (most := 24) h1 hs hb)
      have hle := numS_le b 24 s hs
      clear HE
      unfold Pg.rinsS at HE2
      generalize Pg.numS b 24 s = ns at *
      obtain ⟨u, s1⟩ := ns
      have hu : u ≤ 24 := hle.1
      have hs1 : s1.1 ≤ b.size := hle.2
      simp only [] at HE2
      clear hle
      go_wp2_with fail
      refine (HN.out wr HR.out).mono ?_
      rintro e w5 ⟨rfl, hR5, hg5⟩
      have hR5l : w.heap.size + 1 < w5.heap.size := hR5.lt
      have hv5 : ∀ g, (Value.slice adv xs.length capv).ownBlock = some g → w2.heap.size < g := HP.out.apt
      have HP5 := hide (HP.out.far hg5 (by omega) (fun h => by have := hv5 _ h; omega))
      have hP5l : w2.heap.size < w5.heap.size := HP5.out.blk.lt
      have HZ5 := hide (HZ.out.grown hg5 (by simp))
      have HB5 : Hid (Below w.heap.size w w5) := HB.out.grown hg5 HB.out.size (fun k hk => by injection hk with hk; omega)
      have HR5 := hide hR5
      clear hR5 hg5 HN HR HP HZ HB c2
      have HH := hide (fun W => has_any (u : Int) W)
      have hr3 := has_three (u : Int)
      have HFt := hide (rins_le b (u : Int) (by omega) (Pg.hasP (u : Int)) s1 hs1)
      generalize Pg.hasP (u : Int) = hp at *
      obtain ⟨r, nb, kb⟩ := hp
      have hr3 : r ≤ 3 := hr3
      go_wp2_with fail
      refine (HH.out _).mono ?_
      rintro e w6 ⟨rfl, rfl⟩
      go_wp2_with fail
      have HI0 : Hid (Ib ((w5.alloc (.cells #[.int .i64 (u : Int), .int .i64 0, .int .i64 0, .int .i64 0, .int .i64 0, .int .u64 0] 48)).alloc (.cells #[.int .i64 0, .int .i64 0, .int .i64 0] 62)) w5.heap.size ⟨(u : Int), 0, 0, 0, 0, 0⟩) := Ib.grown (x := ⟨(u : Int), 0, 0, 0, 0, 0⟩) (heap_alloc_new w5 _) (grown_one _ _ none) (by simp)
      have HT0 : Hid (Tb ((w5.alloc (.cells #[.int .i64 (u : Int), .int .i64 0, .int .i64 0, .int .i64 0, .int .i64 0, .int .u64 0] 48)).alloc (.cells #[.int .i64 0, .int .i64 0, .int .i64 0] 62)) (w5.heap.size + 1) (Pg.ra b s1 0 0) (Pg.ra b s1 0 1) (Pg.ra b s1 0 2)) := by
        have h := heap_alloc_new (w5.alloc (.cells #[.int .i64 (u : Int), .int .i64 0, .int .i64 0, .int .i64 0, .int .i64 0, .int .u64 0] 48)) (.cells #[.int .i64 0, .int .i64 0, .int .i64 0] 62)
        rw [World.size_alloc] at h
        exact h
      have HR0 := hide ((HR5.out.grown (grown_one w5 (.cells #[.int .i64 (u : Int), .int .i64 0, .int .i64 0, .int .i64 0, .int .i64 0, .int .u64 0] 48) none) (by simp)).grown (grown_one _ (.cells #[.int .i64 0, .int .i64 0, .int .i64 0] 62) none) (by simp))
      have HP0 := hide ((HP5.out.one (.cells #[.int .i64 (u : Int), .int .i64 0, .int .i64 0, .int .i64 0, .int .i64 0, .int .u64 0] 48)).one (.cells #[.int .i64 0, .int .i64 0, .int .i64 0] 62))
      have HZ0 := hide ((HZ5.out.grown (grown_one w5 (.cells #[.int .i64 (u : Int), .int .i64 0, .int .i64 0, .int .i64 0, .int .i64 0, .int .u64 0] 48) none) (by simp)).grown (grown_one _ (.cells #[.int .i64 0, .int .i64 0, .int .i64 0] 62) none) (by simp))
      have HB0 := hide ((HB5.out.alloc HB5.out.size (.cells #[.int .i64 (u : Int), .int .i64 0, .int .i64 0, .int .i64 0, .int .i64 0, .int .u64 0] 48)).alloc (by have := HB5.out.size; simp; omega) (.cells #[.int .i64 0, .int .i64 0, .int .i64 0] 62))
      have hS0 : ∀ g, (Value.slice adv xs.length capv).ownBlock = some g → g < w5.heap.size := fun g hg => (HP5.out.row.lt g hg).2
      clear HR5 HP5 HZ5 HB5 HH
      generalize (w5.alloc (.cells #[.int .i64 (u : Int), .int .i64 0, .int .i64 0, .int .i64 0, .int .i64 0, .int .u64 0] 48)).alloc (.cells #[.int .i64 0, .int .i64 0, .int .i64 0] 62) = W0 at *
      go_loopw [13] (fun s13 wi => ∃ (j : Nat), j ≤ r ∧ s13 = .int .i64 (j : Int) ∧ Hid (Tb wi (w5.heap.size + 1) (Pg.ra b s1 j 0) (Pg.ra b s1 j 1) (Pg.ra b s1 j 2)) ∧ Hid (Ib wi w5.heap.size ⟨(u : Int), 0, 0, 0, 0, 0⟩) ∧ Hid (Rq wi (w.heap.size + 1) b (Pg.rs b s1 j)) ∧ Hid (Prg w.heap.size w2.heap.size wi (F : Int) (.slice adv xs.length capv) xs) ∧ Hid (Pb wi w.heap.size 0 (.slice none 0 0)) ∧ Hid (Below w.heap.size w wi)) (fun s _ => r - (intOf s).toNat)
      case atStart => exact ⟨0, Nat.zero_le _, rfl, HT0, HI0, HR0, HP0, HZ0, HB0⟩
      case round =>
        obtain ⟨j, hj, rfl, HT, HI, HR, HP, HZ, HB⟩ := hrel
        clear HT0 HI0 HR0 HP0 HZ0 HB0
        by_cases hjr : j < r
        · have hji : (j : Int) < (r : Int) := by omega
          have hj3 : j < 3 := by omega
          have hj3i : (j : Int) < 3 := by omega
          have HN7 := hide (qnum_st (most := 7) HR.out (rs_le b s1 hs1 j) hb)
          have h7 := (numS_le b 7 _ (rs_le b s1 hs1 j)).1
          have HV : Hid ((Pg.numS b 7 (Pg.rs b s1 j)).1 = Pg.rv b s1 j ∧ (Pg.numS b 7 (Pg.rs b s1 j)).2 = Pg.rs b s1 (j + 1)) := ⟨rfl, rfl⟩
          rw [HV.out.1] at HN7 h7
          rw [HV.out.2] at HN7
          have HRV : Hid (∀ W B, Tb W B (Pg.ra b s1 j 0) (Pg.ra b s1 j 1) (Pg.ra b s1 j 2) → Tb (W.setCell ⟨B, j, none⟩ (.int .i64 (Pg.rv b s1 j : Int))) B (Pg.ra b s1 (j + 1) 0) (Pg.ra b s1 (j + 1) 1) (Pg.ra b s1 (j + 1) 2)) := fun W B h => h.set hj3
          generalize Pg.rv b s1 j = rvj at *
          go_wp2_with fail
          refine HN7.out.mono ?_
          rintro e w7 ⟨rfl, hR7, hg7⟩
          have HT7 := hide (HT.out.grown hg7 (by simp; omega))
          have HI7 := hide (HI.out.grown hg7 (by simp; omega))
          have HP7 := hide (HP.out.far hg7 (by omega) (fun h => by have := hv5 _ h; omega))
          have HZ7 := hide (HZ.out.grown hg7 (by simp))
          have HB7 : Hid (Below w.heap.size w w7) := HB.out.grown hg7 HB.out.size (fun k hk => by injection hk with hk; omega)
          have HR7 := hide hR7
          clear hR7 hg7 HN7 HR HT HI HP HZ HB
          have tz := HT7.out.z j
          obtain ⟨tv, tc⟩ : ∃ tv, w7.cell? ⟨w5.heap.size + 1, j, none⟩ = some tv := by
            obtain ⟨a0, a1, a2⟩ := HT7.out.cells
            match j, hj3 with
            | 0, _ => exact ⟨_, a0⟩
            | 1, _ => exact ⟨_, a1⟩
            | 2, _ => exact ⟨_, a2⟩
          go_wp2_with fail
          have hgs := grown_set w7 (w5.heap.size + 1) j (.int .i64 (rvj : Int))
          go_roundw
          case rel => exact ⟨j + 1, by omega, by go_num, HRV.out _ _ HT7.out, HI7.out.grown hgs (by simp), HR7.out.grown hgs (by simp; omega), HP7.out.far hgs (by omega) (fun h => by have := hS0 _ h; omega), HZ7.out.grown hgs (by simp; omega), HB7.out.setCell (by show w.heap.size ≤ w5.heap.size + 1; omega) _⟩
          case measure => simp [intOf]; omega
        · obtain rfl : j = r := by omega
          have hji : ¬ (j : Int) < (j : Int) := by omega
          obtain ⟨t0, t1, t2⟩ := HT.out.cells
          obtain ⟨⟨x0, x1, x2, x3, x4, x5⟩, xz⟩ := six_of HI.out
          have HFt2 : Hid ((Pg.rfS b (u : Int) (j, nb, kb) s1).1.Fits ∧ (Pg.rfS b (u : Int) (j, nb, kb) s1).2.1 ≤ b.size) := HFt.out
          have hrs := rs_le b s1 hs1 j
          unfold Pg.rfS at HE2 HFt2
          simp only [] at HE2 HFt2
          clear HFt hjr
          generalize Pg.rs b s1 j = sj at *
          generalize Pg.ra b s1 j 0 = r0 at *
          generalize Pg.ra b s1 j 1 = r1 at *
          generalize Pg.ra b s1 j 2 = r2 at *
          have hne : w5.heap.size ≠ w5.heap.size + 1 := by omega
          go_wp2_with fail
          go_region
          have hgA0 := grown_trans (grown_set wr w5.heap.size 1 (.int .i64 r0)) (grown_trans (grown_set _ w5.heap.size 2 (.int .i64 r1)) (grown_set _ w5.heap.size 3 (.int .i64 r2)))
          have hgA : wr.grownBy ((((wr.setCell ⟨w5.heap.size, 1, none⟩ (.int .i64 r0)).setCell ⟨w5.heap.size, 2, none⟩ (.int .i64 r1)).setCell ⟨w5.heap.size, 3, none⟩ (.int .i64 r2)).drew) (some w5.heap.size) := ⟨hgA0.os, hgA0.tape, hgA0.output, hgA0.size, hgA0.block⟩
          have HIa : Hid (Ib ((((wr.setCell ⟨w5.heap.size, 1, none⟩ (.int .i64 r0)).setCell ⟨w5.heap.size, 2, none⟩ (.int .i64 r1)).setCell ⟨w5.heap.size, 3, none⟩ (.int .i64 r2)).drew) w5.heap.size ⟨(u : Int), r0, r1, r2, 0, 0⟩) := ib_set (ib_set (ib_set HI.out 1 _) 2 _) 3 _
          have HRa := hide (HR.out.grown hgA (by simp; omega))
          have HPa := hide (HP.out.far hgA (by omega) (fun h => by have := hS0 _ h; omega))
          have HZa := hide (HZ.out.grown hgA (by simp; omega))
          have HBa : Hid (Below w.heap.size w ((((wr.setCell ⟨w5.heap.size, 1, none⟩ (.int .i64 r0)).setCell ⟨w5.heap.size, 2, none⟩ (.int .i64 r1)).setCell ⟨w5.heap.size, 3, none⟩ (.int .i64 r2)).drew)) := HB.out.grown hgA HB.out.size (fun k hk => by injection hk with hk; omega)
          clear hgA hgA0 HI HR HP HZ HB HT t0 t1 t2 x0 x1 x2 x3 x4 x5 xz
          generalize (((wr.setCell ⟨w5.heap.size, 1, none⟩ (.int .i64 r0)).setCell ⟨w5.heap.size, 2, none⟩ (.int .i64 r1)).setCell ⟨w5.heap.size, 3, none⟩ (.int .i64 r2)).drew = wA at *
          cases nb with
          | true =>
            cases kb with
            | true =>
              have e4 : Pg.rn b true sj = Pg.numS b 64 sj := rfl
              rw [e4] at HE2 HFt2
              clear e4
              have HN64 := hide (qnum_st (most := 64) HRa.out hrs hb)
              have h64 := numS_le b 64 sj hrs
              generalize Pg.numS b 64 sj = nn at *
              obtain ⟨nv, s2⟩ := nn
              have hs2 : s2.1 ≤ b.size := h64.2
              have hnv : nv ≤ 64 := h64.1
              simp only [] at HE2 HFt2
              clear h64
              go_wp2_with fail
              refine HN64.out.mono ?_
              rintro e wD ⟨rfl, hRD, hgD⟩
              have HID := hide (HIa.out.grown hgD (by simp; omega))
              have HPD := hide (HPa.out.far hgD (by omega) (fun h => by have := hv5 _ h; omega))
              have HZD := hide (HZa.out.grown hgD (by simp))
              have HBD : Hid (Below w.heap.size w wD) := HBa.out.grown hgD HBa.out.size (fun k hk => by injection hk with hk; omega)
              have HRD := hide hRD
              clear hRD hgD HN64 HRa HPa HZa HBa HIa
              obtain ⟨⟨z0, z1, z2, z3, z4, z5⟩, zz⟩ := six_of HID.out
              go_wp2_with fail
              have hgE := grown_set wD w5.heap.size 4 (.int .i64 (nv : Int))
              have HIc : Hid (Ib (wD.setCell ⟨w5.heap.size, 4, none⟩ (.int .i64 (nv : Int))) w5.heap.size ⟨(u : Int), r0, r1, r2, (nv : Int), 0⟩) := ib_set HID.out 4 _
              have HRc := hide (HRD.out.grown hgE (by simp; omega))
              have HPc := hide (HPD.out.far hgE (by omega) (fun h => by have := hS0 _ h; omega))
              have HZc := hide (HZD.out.grown hgE (by simp; omega))
              have HBc := hide (HBD.out.setCell (p := ⟨w5.heap.size, 4, none⟩) (by show w.heap.size ≤ w5.heap.size; omega) (.int .i64 (nv : Int)))
              clear hgE HID HPD HZD HBD HRD z0 z1 z2 z3 z4 z5 zz
              generalize wD.setCell ⟨w5.heap.size, 4, none⟩ (.int .i64 (nv : Int)) = wC at *
              have e5 : Pg.rk b true s2 = Pg.bitsS b s2 := rfl
              rw [e5] at HE2 HFt2
              clear e5
              have HNb := hide (qbits_st HRc.out hs2 hb)
              generalize Pg.bitsS b s2 = bb at *
              obtain ⟨kv, s3⟩ := bb
              simp only [] at HE2 HFt2
              refine HNb.out.mono ?_
              rintro e wD ⟨rfl, hRD, hgD⟩
              have HID := hide (HIc.out.grown hgD (by simp; omega))
              have HPD := hide (HPc.out.far hgD (by omega) (fun h => by have := hv5 _ h; omega))
              have HZD := hide (HZc.out.grown hgD (by simp))
              have HBD : Hid (Below w.heap.size w wD) := HBc.out.grown hgD HBc.out.size (fun k hk => by injection hk with hk; omega)
              have HRD := hide hRD
              clear hRD hgD HNb HRc HPc HZc HBc HIc
              obtain ⟨⟨z0, z1, z2, z3, z4, z5⟩, zz⟩ := six_of HID.out
              go_upto_region 21 with fail
              have hgE := grown_set wD w5.heap.size 5 (.int .u64 (kv : Int))
              have HIz : Hid (Ib (wD.setCell ⟨w5.heap.size, 5, none⟩ (.int .u64 (kv : Int))) w5.heap.size ⟨(u : Int), r0, r1, r2, (nv : Int), kv⟩) := ib_set HID.out 5 _
              have HRz := hide (HRD.out.grown hgE (by simp; omega))
              have HPz := hide (HPD.out.far hgE (by omega) (fun h => by have := hS0 _ h; omega))
              have HZz := hide (HZD.out.grown hgE (by simp; omega))
              have HBz := hide (HBD.out.setCell (p := ⟨w5.heap.size, 5, none⟩) (by show w.heap.size ≤ w5.heap.size; omega) (.int .u64 (kv : Int)))
              clear hgE HID HPD HZD HBD HRD z0 z1 z2 z3 z4 z5 zz
              generalize wD.setCell ⟨w5.heap.size, 5, none⟩ (.int .u64 (kv : Int)) = wz at *
              have r1c := HPz.out.blk.c1
              have rzc := HPz.out.blk.z 1
              obtain ⟨⟨y0, y1, y2, y3, y4, y5⟩, yz⟩ := six_of HIz.out
              have hPzl := HPz.out.blk.lt
              have hIzl := HIz.out.lt
              obtain ⟨i0, hi0, hz0, hz1, hz2⟩ := info_parts Tryz.infoI
              go_wp2_with (at_builtin; refine wpList_append_lies _ rfl (.tmp 84) (.tmp 86) 22 rfl w.heap.size 48 i0 (.agg #[.int .i64 0, .int .i64 0, .int .i64 0, .int .i64 0, .int .i64 0, .int .u64 0]) 6 48 Tryz.underlying22 hi0 hz0 hz1 hz2 rfl (by decide) (.slice adv xs.length capv) xs.length (Pg.flat xs) rfl (own_grown HPz.out.row (grown_one _ (.cells #[.int .i64 (u : Int), .int .i64 r0, .int .i64 r1, .int .i64 r2, .int .i64 (nv : Int), .int .u64 (kv : Int)] 48) none) (fun _ _ => by simp)) ⟨wz.heap.size, 0, none⟩ 1 1 [.int .i64 (u : Int), .int .i64 r0, .int .i64 r1, .int .i64 r2, .int .i64 (nv : Int), .int .u64 (kv : Int)] rfl (by simp) (World.news_of_block (cs := #[.int .i64 (u : Int), .int .i64 r0, .int .i64 r1, .int .i64 r2, .int .i64 (nv : Int), .int .u64 (kv : Int)]) (t := 48) (fr := (0, 0)) (heap_alloc_new wz _)) (by simp [Value.oneCell']) (by decide) (by unfold maxLen; omega) (by omega) (by have := HBz.out.size; rw [World.size_alloc]; omega) (wz.heap.size + 1) (by rw [World.size_alloc]) ?_; intro g cap' w7 hown hgrow hat hlt7; obtain ⟨q1, q2, q3, q4⟩ := line_added (x := ⟨(u : Int), r0, r1, r2, (nv : Int), kv⟩) HPz.out HIz.out hown hgrow hat (by omega) (fun e => by have := hS0 _ e; omega); have d1 : w7.cell? ⟨w2.heap.size, 1, none⟩ = some (.slice adv xs.length capv) := hgrow.cell (Lib.cell?_alloc_some _ r1c) (fun e => absurd (hv5 _ e.symm) (Nat.lt_irrefl _)); have dz : w7.frozen? ⟨w2.heap.size, 1, none⟩ = false := (hgrow.frozen_far ⟨w2.heap.size, 1, none⟩ (by rw [World.size_alloc]; show w2.heap.size < _; omega) (fun e => absurd (hv5 _ e.symm) (Nat.lt_irrefl _))).trans ((HPz.out.blk.grown (grown_one _ (.cells #[.int .i64 (u : Int), .int .i64 r0, .int .i64 r1, .int .i64 r2, .int .i64 (nv : Int), .int .u64 (kv : Int)] 48) none) (by simp)).z 1); have HQ1 := hide q1; have HQ2 := hide q2; clear q1 q2 q3 q4 hown hgrow hat hlt7)
              have hnF : ∀ k, k = w.heap.size ∨ k = w.heap.size + 1 → ¬ Fp w2.heap.size (.slice adv xs.length capv) k := fun k hk hf => by
                rcases hf with hf | hf
                · omega
                · have := hv5 _ hf; omega
              have HQR := hide (HRz.out.keep (HQ2.out.block _ HRz.out.lt (hnF _ (.inr rfl))))
              have HQZ := hide ((HQ2.out.block _ HZz.out.lt (hnF _ (.inl rfl))).trans HZz.out)
              have HQB := hide (HBz.out.trans (HQ2.out.below HPz.out HBz.out.size))
              have HFF : Hid (∀ x ∈ xs ++ [(⟨(u : Int), r0, r1, r2, (nv : Int), kv⟩ : In)], x.Fits) := fun x hx => (List.mem_append.1 hx).elim (HF.out x) (fun h => by rw [List.mem_singleton.1 h]; exact HFt2.out.1)
              go_roundw
              case rel => exact ⟨xs.length + 1, xs ++ [(⟨(u : Int), r0, r1, r2, (nv : Int), kv⟩ : In)], s3, _, by omega, by rw [List.length_append]; rfl, HFt2.out.2, by go_num, HFF, HQR, HQZ, HQ1, HQB, HE2⟩
              case measure => simp [intOf]; omega
            | false =>
              have e4 : Pg.rn b true sj = Pg.numS b 64 sj := rfl
              rw [e4] at HE2 HFt2
              clear e4
              have HN64 := hide (qnum_st (most := 64) HRa.out hrs hb)
              have h64 := numS_le b 64 sj hrs
              generalize Pg.numS b 64 sj = nn at *
              obtain ⟨nv, s2⟩ := nn
              have hs2 : s2.1 ≤ b.size := h64.2
              have hnv : nv ≤ 64 := h64.1
              simp only [] at HE2 HFt2
              clear h64
              go_wp2_with fail
              refine HN64.out.mono ?_
              rintro e wD ⟨rfl, hRD, hgD⟩
              have HID := hide (HIa.out.grown hgD (by simp; omega))
              have HPD := hide (HPa.out.far hgD (by omega) (fun h => by have := hv5 _ h; omega))
              have HZD := hide (HZa.out.grown hgD (by simp))
              have HBD : Hid (Below w.heap.size w wD) := HBa.out.grown hgD HBa.out.size (fun k hk => by injection hk with hk; omega)
              have HRD := hide hRD
              clear hRD hgD HN64 HRa HPa HZa HBa HIa
              obtain ⟨⟨z0, z1, z2, z3, z4, z5⟩, zz⟩ := six_of HID.out
              go_upto_region 21 with fail
              have hgE := grown_set wD w5.heap.size 4 (.int .i64 (nv : Int))
              have HIc : Hid (Ib (wD.setCell ⟨w5.heap.size, 4, none⟩ (.int .i64 (nv : Int))) w5.heap.size ⟨(u : Int), r0, r1, r2, (nv : Int), 0⟩) := ib_set HID.out 4 _
              have HRc := hide (HRD.out.grown hgE (by simp; omega))
              have HPc := hide (HPD.out.far hgE (by omega) (fun h => by have := hS0 _ h; omega))
              have HZc := hide (HZD.out.grown hgE (by simp; omega))
              have HBc := hide (HBD.out.setCell (p := ⟨w5.heap.size, 4, none⟩) (by show w.heap.size ≤ w5.heap.size; omega) (.int .i64 (nv : Int)))
              clear hgE HID HPD HZD HBD HRD z0 z1 z2 z3 z4 z5 zz
              generalize wD.setCell ⟨w5.heap.size, 4, none⟩ (.int .i64 (nv : Int)) = wC at *
              have e5 : Pg.rk b false s2 = (0, s2) := rfl
              rw [e5] at HE2 HFt2
              clear e5
              simp only [] at HE2 HFt2
              obtain ⟨kv, hkv⟩ : ∃ kv : Nat, kv = 0 := ⟨0, rfl⟩
              rw [← hkv] at HE2 HFt2
              have HIz : Hid (Ib wC w5.heap.size ⟨(u : Int), r0, r1, r2, (nv : Int), kv⟩) := by rw [hkv]; exact HIc
              clear hkv HIc
              obtain ⟨s3, hs3⟩ : ∃ s3, s3 = s2 := ⟨_, rfl⟩
              subst hs3
              have HRz := HRc
              have HPz := HPc
              have HZz := HZc
              have HBz := HBc
              clear HRc HPc HZc HBc
              generalize wC = wz at *
              have r1c := HPz.out.blk.c1
              have rzc := HPz.out.blk.z 1
              obtain ⟨⟨y0, y1, y2, y3, y4, y5⟩, yz⟩ := six_of HIz.out
              have hPzl := HPz.out.blk.lt
              have hIzl := HIz.out.lt
              obtain ⟨i0, hi0, hz0, hz1, hz2⟩ := info_parts Tryz.infoI
              go_wp2_with (at_builtin; refine wpList_append_lies _ rfl (.tmp 84) (.tmp 86) 22 rfl w.heap.size 48 i0 (.agg #[.int .i64 0, .int .i64 0, .int .i64 0, .int .i64 0, .int .i64 0, .int .u64 0]) 6 48 Tryz.underlying22 hi0 hz0 hz1 hz2 rfl (by decide) (.slice adv xs.length capv) xs.length (Pg.flat xs) rfl (own_grown HPz.out.row (grown_one _ (.cells #[.int .i64 (u : Int), .int .i64 r0, .int .i64 r1, .int .i64 r2, .int .i64 (nv : Int), .int .u64 (kv : Int)] 48) none) (fun _ _ => by simp)) ⟨wz.heap.size, 0, none⟩ 1 1 [.int .i64 (u : Int), .int .i64 r0, .int .i64 r1, .int .i64 r2, .int .i64 (nv : Int), .int .u64 (kv : Int)] rfl (by simp) (World.news_of_block (cs := #[.int .i64 (u : Int), .int .i64 r0, .int .i64 r1, .int .i64 r2, .int .i64 (nv : Int), .int .u64 (kv : Int)]) (t := 48) (fr := (0, 0)) (heap_alloc_new wz _)) (by simp [Value.oneCell']) (by decide) (by unfold maxLen; omega) (by omega) (by have := HBz.out.size; rw [World.size_alloc]; omega) (wz.heap.size + 1) (by rw [World.size_alloc]) ?_; intro g cap' w7 hown hgrow hat hlt7; obtain ⟨q1, q2, q3, q4⟩ := line_added (x := ⟨(u : Int), r0, r1, r2, (nv : Int), kv⟩) HPz.out HIz.out hown hgrow hat (by omega) (fun e => by have := hS0 _ e; omega); have d1 : w7.cell? ⟨w2.heap.size, 1, none⟩ = some (.slice adv xs.length capv) := hgrow.cell (Lib.cell?_alloc_some _ r1c) (fun e => absurd (hv5 _ e.symm) (Nat.lt_irrefl _)); have dz : w7.frozen? ⟨w2.heap.size, 1, none⟩ = false := (hgrow.frozen_far ⟨w2.heap.size, 1, none⟩ (by rw [World.size_alloc]; show w2.heap.size < _; omega) (fun e => absurd (hv5 _ e.symm) (Nat.lt_irrefl _))).trans ((HPz.out.blk.grown (grown_one _ (.cells #[.int .i64 (u : Int), .int .i64 r0, .int .i64 r1, .int .i64 r2, .int .i64 (nv : Int), .int .u64 (kv : Int)] 48) none) (by simp)).z 1); have HQ1 := hide q1; have HQ2 := hide q2; clear q1 q2 q3 q4 hown hgrow hat hlt7)
              have hnF : ∀ k, k = w.heap.size ∨ k = w.heap.size + 1 → ¬ Fp w2.heap.size (.slice adv xs.length capv) k := fun k hk hf => by
                rcases hf with hf | hf
                · omega
                · have := hv5 _ hf; omega
              have HQR := hide (HRz.out.keep (HQ2.out.block _ HRz.out.lt (hnF _ (.inr rfl))))
              have HQZ := hide ((HQ2.out.block _ HZz.out.lt (hnF _ (.inl rfl))).trans HZz.out)
              have HQB := hide (HBz.out.trans (HQ2.out.below HPz.out HBz.out.size))
              have HFF : Hid (∀ x ∈ xs ++ [(⟨(u : Int), r0, r1, r2, (nv : Int), kv⟩ : In)], x.Fits) := fun x hx => (List.mem_append.1 hx).elim (HF.out x) (fun h => by rw [List.mem_singleton.1 h]; exact HFt2.out.1)
              go_roundw
              case rel => exact ⟨xs.length + 1, xs ++ [(⟨(u : Int), r0, r1, r2, (nv : Int), kv⟩ : In)], s3, _, by omega, by rw [List.length_append]; rfl, HFt2.out.2, by go_num, HFF, HQR, HQZ, HQ1, HQB, HE2⟩
              case measure => simp [intOf]; omega
          | false =>
            cases kb with
            | true =>
              have e4 : Pg.rn b false sj = (0, sj) := rfl
              rw [e4] at HE2 HFt2
              clear e4
              simp only [] at HE2 HFt2
              obtain ⟨nv, hnv0⟩ : ∃ nv : Nat, nv = 0 := ⟨0, rfl⟩
              rw [← hnv0] at HE2 HFt2
              have HIc : Hid (Ib wA w5.heap.size ⟨(u : Int), r0, r1, r2, (nv : Int), 0⟩) := by rw [hnv0]; exact HIa
              have hnv : nv ≤ 64 := by omega
              clear hnv0 HIa
              obtain ⟨s2, hs2e⟩ : ∃ s2, s2 = sj := ⟨_, rfl⟩
              subst hs2e
              have hs2 := hrs
              have HRc := HRa
              have HPc := HPa
              have HZc := HZa
              have HBc := HBa
              clear HRa HPa HZa HBa
              go_wp2_with fail
              generalize wA = wC at *
              have e5 : Pg.rk b true s2 = Pg.bitsS b s2 := rfl
              rw [e5] at HE2 HFt2
              clear e5
              have HNb := hide (qbits_st HRc.out hs2 hb)
              generalize Pg.bitsS b s2 = bb at *
              obtain ⟨kv, s3⟩ := bb
              simp only [] at HE2 HFt2
              refine HNb.out.mono ?_
              rintro e wD ⟨rfl, hRD, hgD⟩
              have HID := hide (HIc.out.grown hgD (by simp; omega))
              have HPD := hide (HPc.out.far hgD (by omega) (fun h => by have := hv5 _ h; omega))
              have HZD := hide (HZc.out.grown hgD (by simp))
              have HBD : Hid (Below w.heap.size w wD) := HBc.out.grown hgD HBc.out.size (fun k hk => by injection hk with hk; omega)
              have HRD := hide hRD
              clear hRD hgD HNb HRc HPc HZc HBc HIc
              obtain ⟨⟨z0, z1, z2, z3, z4, z5⟩, zz⟩ := six_of HID.out
              go_upto_region 21 with fail
              have hgE := grown_set wD w5.heap.size 5 (.int .u64 (kv : Int))
              have HIz : Hid (Ib (wD.setCell ⟨w5.heap.size, 5, none⟩ (.int .u64 (kv : Int))) w5.heap.size ⟨(u : Int), r0, r1, r2, (nv : Int), kv⟩) := ib_set HID.out 5 _
              have HRz := hide (HRD.out.grown hgE (by simp; omega))
              have HPz := hide (HPD.out.far hgE (by omega) (fun h => by have := hS0 _ h; omega))
              have HZz := hide (HZD.out.grown hgE (by simp; omega))
              have HBz := hide (HBD.out.setCell (p := ⟨w5.heap.size, 5, none⟩) (by show w.heap.size ≤ w5.heap.size; omega) (.int .u64 (kv : Int)))
              clear hgE HID HPD HZD HBD HRD z0 z1 z2 z3 z4 z5 zz
              generalize wD.setCell ⟨w5.heap.size, 5, none⟩ (.int .u64 (kv : Int)) = wz at *
              have r1c := HPz.out.blk.c1
              have rzc := HPz.out.blk.z 1
              obtain ⟨⟨y0, y1, y2, y3, y4, y5⟩, yz⟩ := six_of HIz.out
              have hPzl := HPz.out.blk.lt
              have hIzl := HIz.out.lt
              obtain ⟨i0, hi0, hz0, hz1, hz2⟩ := info_parts Tryz.infoI
              go_wp2_with (at_builtin; refine wpList_append_lies _ rfl (.tmp 84) (.tmp 86) 22 rfl w.heap.size 48 i0 (.agg #[.int .i64 0, .int .i64 0, .int .i64 0, .int .i64 0, .int .i64 0, .int .u64 0]) 6 48 Tryz.underlying22 hi0 hz0 hz1 hz2 rfl (by decide) (.slice adv xs.length capv) xs.length (Pg.flat xs) rfl (own_grown HPz.out.row (grown_one _ (.cells #[.int .i64 (u : Int), .int .i64 r0, .int .i64 r1, .int .i64 r2, .int .i64 (nv : Int), .int .u64 (kv : Int)] 48) none) (fun _ _ => by simp)) ⟨wz.heap.size, 0, none⟩ 1 1 [.int .i64 (u : Int), .int .i64 r0, .int .i64 r1, .int .i64 r2, .int .i64 (nv : Int), .int .u64 (kv : Int)] rfl (by simp) (World.news_of_block (cs := #[.int .i64 (u : Int), .int .i64 r0, .int .i64 r1, .int .i64 r2, .int .i64 (nv : Int), .int .u64 (kv : Int)]) (t := 48) (fr := (0, 0)) (heap_alloc_new wz _)) (by simp [Value.oneCell']) (by decide) (by unfold maxLen; omega) (by omega) (by have := HBz.out.size; rw [World.size_alloc]; omega) (wz.heap.size + 1) (by rw [World.size_alloc]) ?_; intro g cap' w7 hown hgrow hat hlt7; obtain ⟨q1, q2, q3, q4⟩ := line_added (x := ⟨(u : Int), r0, r1, r2, (nv : Int), kv⟩) HPz.out HIz.out hown hgrow hat (by omega) (fun e => by have := hS0 _ e; omega); have d1 : w7.cell? ⟨w2.heap.size, 1, none⟩ = some (.slice adv xs.length capv) := hgrow.cell (Lib.cell?_alloc_some _ r1c) (fun e => absurd (hv5 _ e.symm) (Nat.lt_irrefl _)); have dz : w7.frozen? ⟨w2.heap.size, 1, none⟩ = false := (hgrow.frozen_far ⟨w2.heap.size, 1, none⟩ (by rw [World.size_alloc]; show w2.heap.size < _; omega) (fun e => absurd (hv5 _ e.symm) (Nat.lt_irrefl _))).trans ((HPz.out.blk.grown (grown_one _ (.cells #[.int .i64 (u : Int), .int .i64 r0, .int .i64 r1, .int .i64 r2, .int .i64 (nv : Int), .int .u64 (kv : Int)] 48) none) (by simp)).z 1); have HQ1 := hide q1; have HQ2 := hide q2; clear q1 q2 q3 q4 hown hgrow hat hlt7)
              have hnF : ∀ k, k = w.heap.size ∨ k = w.heap.size + 1 → ¬ Fp w2.heap.size (.slice adv xs.length capv) k := fun k hk hf => by
                rcases hf with hf | hf
                · omega
                · have := hv5 _ hf; omega
              have HQR := hide (HRz.out.keep (HQ2.out.block _ HRz.out.lt (hnF _ (.inr rfl))))
              have HQZ := hide ((HQ2.out.block _ HZz.out.lt (hnF _ (.inl rfl))).trans HZz.out)
              have HQB := hide (HBz.out.trans (HQ2.out.below HPz.out HBz.out.size))
              have HFF : Hid (∀ x ∈ xs ++ [(⟨(u : Int), r0, r1, r2, (nv : Int), kv⟩ : In)], x.Fits) := fun x hx => (List.mem_append.1 hx).elim (HF.out x) (fun h => by rw [List.mem_singleton.1 h]; exact HFt2.out.1)
              go_roundw
              case rel => exact ⟨xs.length + 1, xs ++ [(⟨(u : Int), r0, r1, r2, (nv : Int), kv⟩ : In)], s3, _, by omega, by rw [List.length_append]; rfl, HFt2.out.2, by go_num, HFF, HQR, HQZ, HQ1, HQB, HE2⟩
              case measure => simp [intOf]; omega
            | false =>
              have e4 : Pg.rn b false sj = (0, sj) := rfl
              rw [e4] at HE2 HFt2
              clear e4
              simp only [] at HE2 HFt2
              obtain ⟨nv, hnv0⟩ : ∃ nv : Nat, nv = 0 := ⟨0, rfl⟩
              rw [← hnv0] at HE2 HFt2
              have HIc : Hid (Ib wA w5.heap.size ⟨(u : Int), r0, r1, r2, (nv : Int), 0⟩) := by rw [hnv0]; exact HIa
              have hnv : nv ≤ 64 := by omega
              clear hnv0 HIa
              obtain ⟨s2, hs2e⟩ : ∃ s2, s2 = sj := ⟨_, rfl⟩
              subst hs2e
              have hs2 := hrs
              have HRc := HRa
              have HPc := HPa
              have HZc := HZa
              have HBc := HBa
              clear HRa HPa HZa HBa
              go_upto_region 21 with fail
              generalize wA = wC at *
              have e5 : Pg.rk b false s2 = (0, s2) := rfl
              rw [e5] at HE2 HFt2
              clear e5
              simp only [] at HE2 HFt2
              obtain ⟨kv, hkv⟩ : ∃ kv : Nat, kv = 0 := ⟨0, rfl⟩
              rw [← hkv] at HE2 HFt2
              have HIz : Hid (Ib wC w5.heap.size ⟨(u : Int), r0, r1, r2, (nv : Int), kv⟩) := by rw [hkv]; exact HIc
              clear hkv HIc
              obtain ⟨s3, hs3⟩ : ∃ s3, s3 = s2 := ⟨_, rfl⟩
              subst hs3
              have HRz := HRc
              have HPz := HPc
              have HZz := HZc
              have HBz := HBc
              clear HRc HPc HZc HBc
              generalize wC = wz at *
              have r1c := HPz.out.blk.c1
              have rzc := HPz.out.blk.z 1
              obtain ⟨⟨y0, y1, y2, y3, y4, y5⟩, yz⟩ := six_of HIz.out
              have hPzl := HPz.out.blk.lt
              have hIzl := HIz.out.lt
              obtain ⟨i0, hi0, hz0, hz1, hz2⟩ := info_parts Tryz.infoI
              go_wp2_with (at_builtin; refine wpList_append_lies _ rfl (.tmp 84) (.tmp 86) 22 rfl w.heap.size 48 i0 (.agg #[.int .i64 0, .int .i64 0, .int .i64 0, .int .i64 0, .int .i64 0, .int .u64 0]) 6 48 Tryz.underlying22 hi0 hz0 hz1 hz2 rfl (by decide) (.slice adv xs.length capv) xs.length (Pg.flat xs) rfl (own_grown HPz.out.row (grown_one _ (.cells #[.int .i64 (u : Int), .int .i64 r0, .int .i64 r1, .int .i64 r2, .int .i64 (nv : Int), .int .u64 (kv : Int)] 48) none) (fun _ _ => by simp)) ⟨wz.heap.size, 0, none⟩ 1 1 [.int .i64 (u : Int), .int .i64 r0, .int .i64 r1, .int .i64 r2, .int .i64 (nv : Int), .int .u64 (kv : Int)] rfl (by simp) (World.news_of_block (cs := #[.int .i64 (u : Int), .int .i64 r0, .int .i64 r1, .int .i64 r2, .int .i64 (nv : Int), .int .u64 (kv : Int)]) (t := 48) (fr := (0, 0)) (heap_alloc_new wz _)) (by simp [Value.oneCell']) (by decide) (by unfold maxLen; omega) (by omega) (by have := HBz.out.size; rw [World.size_alloc]; omega) (wz.heap.size + 1) (by rw [World.size_alloc]) ?_; intro g cap' w7 hown hgrow hat hlt7; obtain ⟨q1, q2, q3, q4⟩ := line_added (x := ⟨(u : Int), r0, r1, r2, (nv : Int), kv⟩) HPz.out HIz.out hown hgrow hat (by omega) (fun e => by have := hS0 _ e; omega); have d1 : w7.cell? ⟨w2.heap.size, 1, none⟩ = some (.slice adv xs.length capv) := hgrow.cell (Lib.cell?_alloc_some _ r1c) (fun e => absurd (hv5 _ e.symm) (Nat.lt_irrefl _)); have dz : w7.frozen? ⟨w2.heap.size, 1, none⟩ = false := (hgrow.frozen_far ⟨w2.heap.size, 1, none⟩ (by rw [World.size_alloc]; show w2.heap.size < _; omega) (fun e => absurd (hv5 _ e.symm) (Nat.lt_irrefl _))).trans ((HPz.out.blk.grown (grown_one _ (.cells #[.int .i64 (u : Int), .int .i64 r0, .int .i64 r1, .int .i64 r2, .int .i64 (nv : Int), .int .u64 (kv : Int)] 48) none) (by simp)).z 1); have HQ1 := hide q1; have HQ2 := hide q2; clear q1 q2 q3 q4 hown hgrow hat hlt7)
              have hnF : ∀ k, k = w.heap.size ∨ k = w.heap.size + 1 → ¬ Fp w2.heap.size (.slice adv xs.length capv) k := fun k hk hf => by
                rcases hf with hf | hf
                · omega
                · have := hv5 _ hf; omega
              have HQR := hide (HRz.out.keep (HQ2.out.block _ HRz.out.lt (hnF _ (.inr rfl))))
              have HQZ := hide ((HQ2.out.block _ HZz.out.lt (hnF _ (.inl rfl))).trans HZz.out)
              have HQB := hide (HBz.out.trans (HQ2.out.below HPz.out HBz.out.size))
              have HFF : Hid (∀ x ∈ xs ++ [(⟨(u : Int), r0, r1, r2, (nv : Int), kv⟩ : In)], x.Fits) := fun x hx => (List.mem_append.1 hx).elim (HF.out x) (fun h => by rw [List.mem_singleton.1 h]; exact HFt2.out.1)
              go_roundw
              case rel => exact ⟨xs.length + 1, xs ++ [(⟨(u : Int), r0, r1, r2, (nv : Int), kv⟩ : In)], s3, _, by omega, by rw [List.length_append]; rfl, HFt2.out.2, by go_num, HFF, HQR, HQZ, HQ1, HQB, HE2⟩
              case measure => simp [intOf]; omega
    · have HE2 : Hid (Pg.rmanyS b n sL [] = (xs, s)) := HE.out.trans (rmany_end b _ s xs (by omega))
      rw [HE2.out] at HRes
      simp only [] at HRes
      clear HE HE2
      by_cases hkn : xs.length < n
      · have hki : (xs.length : Int) < (n : Int) := by omega
        have hs2 : ((s.2 : Int) == 0) = false := by rw [beq_eq_false_iff_ne]; omega
        go_wp2_with fail
        refine (qend_any (show RR wr (w.heap.size + 1) 0 b (s.1 : Int) (s.2 : Int) (if (s.2 : Int) = 0 then 0 else (s.1 : Int)) from HR.out)).mono ?_
        rintro e w5 ⟨rfl, n5, rfl⟩
        have HB5 : Hid (Below w.heap.size w (wr.drewN n5)) := ⟨HB.out.os, HB.out.tape, HB.out.output, HB.out.size, HB.out.block⟩
        have HO5 : Hid ((wr.drewN n5).ownsRow w.heap.size 48 6 (.slice adv xs.length capv) xs.length (Pg.flat xs)) := HP.out.row
        have HZ5 : Hid (Pb (wr.drewN n5) w.heap.size 0 (.slice none 0 0)) := HZ.out
        have HP5 : Hid (Pb (wr.drewN n5) w2.heap.size (F : Int) (.slice adv xs.length capv)) := HP.out.blk
        have hap := HP.out.apt
        clear HP HZ HB HR
        generalize wr.drewN n5 = w5 at *
        have p0 := HP5.out.c0
        have p1 := HP5.out.c1
        go_wp2_with fail
        refine (rcheck_any (F : Int) xs HF.out (.slice adv xs.length capv) w5 (own_cd HO5.out)).mono ?_
        rintro e w6 ⟨rfl, hb6⟩
        have HO6 := hide (own_below HO5.out hb6)
        have HZ6 := hide (HZ5.out.grown (grown_below hb6 none) (by simp))
        have HP6 := hide (HP5.out.grown (grown_below hb6 none) (by simp))
        have HB6 : Hid (Below w.heap.size w w6) := HB5.out.trans (hb6.mono HB5.out.size)
        clear hb6 HO5 HZ5 HP5 HB5 p0 p1
        generalize Pg.checkE (F : Int) xs = ce at *
        obtain ⟨E, at_⟩ := ce
        generalize endE b (s.1 : Int) (s.2 : Int) = EE at *
        have z0 := HZ6.out.c0
        have z1 := HZ6.out.c1
        have zz := HZ6.out.z
        have p0 := HP6.out.c0
        have p1 := HP6.out.c1
        have hne : w2.heap.size ≠ w.heap.size := by omega
        by_cases hE : EE = 0
        · subst hE
          by_cases hE0 : E = 0
          · subst hE0
            rw [if_neg (fun h => h.elim (fun h => h rfl) (fun h => h rfl))] at HRes
            go_wp2
            refine bodyPost_ret (by rw [results_cell_tmp rfl]; go_simp; rfl) rfl ?_
            rw [← HRes.out]
            exact ⟨_, rfl, own_grown HO6.out (grown_trans (grown_set _ _ _ _) (grown_set _ _ _ _)) (fun k hk => by have := hap k hk; simp; omega), (HB6.out.setCell (by simp) _).setCell (by simp) _⟩
          · have hEb : (E != 0) = true := by simp [hE0]
            rw [if_pos (.inr hE0)] at HRes
            go_wp2
            refine bodyPost_ret (by rw [results_cell_tmp rfl]; go_simp; rfl) rfl ?_
            rw [← HRes.out]
            exact ⟨_, rfl, World.ownsRow_nil _ _ _ _, (HB6.out.setCell (by simp) _).setCell (by simp) _⟩
        · have hEb : (EE != 0) = true := by simp [hE]
          rw [if_pos (.inl hE)] at HRes
          go_wp2
          refine bodyPost_ret (by rw [results_cell_tmp rfl]; go_simp; rfl) rfl ?_
          rw [← HRes.out]
          exact ⟨_, rfl, World.ownsRow_nil _ _ _ _, (HB6.out.setCell (by simp) _).setCell (by simp) _⟩
      · have hki : decide ((xs.length : Int) < (n : Int)) = false := by simp; omega
        go_wp2_with fail
        refine (qend_any (show RR wr (w.heap.size + 1) 0 b (s.1 : Int) (s.2 : Int) (if (s.2 : Int) = 0 then 0 else (s.1 : Int)) from HR.out)).mono ?_
        rintro e w5 ⟨rfl, n5, rfl⟩
        have HB5 : Hid (Below w.heap.size w (wr.drewN n5)) := ⟨HB.out.os, HB.out.tape, HB.out.output, HB.out.size, HB.out.block⟩
        have HO5 : Hid ((wr.drewN n5).ownsRow w.heap.size 48 6 (.slice adv xs.length capv) xs.length (Pg.flat xs)) := HP.out.row
        have HZ5 : Hid (Pb (wr.drewN n5) w.heap.size 0 (.slice none 0 0)) := HZ.out
        have HP5 : Hid (Pb (wr.drewN n5) w2.heap.size (F : Int) (.slice adv xs.length capv)) := HP.out.blk
        have hap := HP.out.apt
        clear HP HZ HB HR
        generalize wr.drewN n5 = w5 at *
        have p0 := HP5.out.c0
        have p1 := HP5.out.c1
        go_wp2_with fail
        refine (rcheck_any (F : Int) xs HF.out (.slice adv xs.length capv) w5 (own_cd HO5.out)).mono ?_
        rintro e w6 ⟨rfl, hb6⟩
        have HO6 := hide (own_below HO5.out hb6)
        have HZ6 := hide (HZ5.out.grown (grown_below hb6 none) (by simp))
        have HP6 := hide (HP5.out.grown (grown_below hb6 none) (by simp))
        have HB6 : Hid (Below w.heap.size w w6) := HB5.out.trans (hb6.mono HB5.out.size)
        clear hb6 HO5 HZ5 HP5 HB5 p0 p1
        generalize Pg.checkE (F : Int) xs = ce at *
        obtain ⟨E, at_⟩ := ce
        generalize endE b (s.1 : Int) (s.2 : Int) = EE at *
        have z0 := HZ6.out.c0
        have z1 := HZ6.out.c1
        have zz := HZ6.out.z
        have p0 := HP6.out.c0
        have p1 := HP6.out.c1
        have hne : w2.heap.size ≠ w.heap.size := by omega
        by_cases hE : EE = 0
        · subst hE
          by_cases hE0 : E = 0
          · subst hE0
            rw [if_neg (fun h => h.elim (fun h => h rfl) (fun h => h rfl))] at HRes
            go_wp2
            refine bodyPost_ret (by rw [results_cell_tmp rfl]; go_simp; rfl) rfl ?_
            rw [← HRes.out]
            exact ⟨_, rfl, own_grown HO6.out (grown_trans (grown_set _ _ _ _) (grown_set _ _ _ _)) (fun k hk => by have := hap k hk; simp; omega), (HB6.out.setCell (by simp) _).setCell (by simp) _⟩
          · have hEb : (E != 0) = true := by simp [hE0]
            rw [if_pos (.inr hE0)] at HRes
            go_wp2
            refine bodyPost_ret (by rw [results_cell_tmp rfl]; go_simp; rfl) rfl ?_
            rw [← HRes.out]
            exact ⟨_, rfl, World.ownsRow_nil _ _ _ _, (HB6.out.setCell (by simp) _).setCell (by simp) _⟩
        · have hEb : (EE != 0) = true := by simp [hE]
          rw [if_pos (.inl hE)] at HRes
          go_wp2
          refine bodyPost_ret (by rw [results_cell_tmp rfl]; go_simp; rfl) rfl ?_
          rw [← HRes.out]
          exact ⟨_, rfl, World.ownsRow_nil _ _ _ _, (HB6.out.setCell (by simp) _).setCell (by simp) _⟩
end Go.Proofs.YtjkkjijlblfgaaaGreatDoor
end
