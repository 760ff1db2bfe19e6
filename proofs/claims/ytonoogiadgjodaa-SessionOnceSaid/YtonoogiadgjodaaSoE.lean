import Derived.Test.YtonoogiadgjodaaSoD
import Derived.Test.YtonoogiadgjodaaSeF
import Derived.Test.YtonoogiadgjodaaSeI
namespace Go.Proofs.Ytonoogiadgjodaa
open Go.RowKit

section
variable {B : Nat} {w w' : World} {A : Ja} {j : Jt} {own : Int → Int} {N : Int}
/-- one of its own cells is turned -/
theorem Jm.turn (h : Jm B w A j) (o : Nat) (v : Value) {j' : Jt} (h1 : (w.setCell ⟨A.a, o, none⟩ v).heap[A.a]? = some (.cells (jC A j') 67 (0, 0))) (h2 : j'.c = j.c) (h3 : j'.D = j.D) (h4 : j'.way = j.way) (h5 : j'.deeds = j.deeds) : Jm B (w.setCell ⟨A.a, o, none⟩ v) A j' ∧ Jv A A w (w.setCell ⟨A.a, o, none⟩ v) := by
  have set : ∀ k, k ≠ A.a → (w.setCell ⟨A.a, o, none⟩ v).heap[k]? = w.heap[k]? := fun k hk => Below.heap_setCell _ _ _ k hk
  obtain ⟨cg, hcg⟩ := own_blk h.tm.row (k := A.tg) rfl
  refine ⟨⟨h1, ?_, ?_, ?_, ?_, h.la, h.lb⟩, ⟨rfl, rfl, rfl, by rw [setCell_size]; exact Nat.le_refl _, fun k hk hn => set k fun e => hn (.inl e), fun k hk => .inl hk⟩⟩
  · rw [h2]; exact (set _ (blk_ne h.cb h.hj (by decide))).trans h.cb
  · rw [h3]; exact h.tm.keep (set _ (blk_ne h.tm.hb h.hj (by decide))) (set _ (blk_ne hcg h.hj (by decide)))
  · rw [h4]
    refine own_keep h.rw_ fun k hk => set k fun e => ?_
    obtain ⟨cs, hcs⟩ := own_blk h.rw_ hk
    exact blk_ne hcs h.hj (by decide) e
  · rw [h5]
    refine own_keep h.rd fun k hk => set k fun e => ?_
    obtain ⟨cs, hcs⟩ := own_blk h.rd hk
    exact blk_ne hcs h.hj (by decide) e
/-- the caller is turned -/
theorem Jm.onC (h : Jm B w A j) {c' : Cl} (hc : Cb w' A.bc c') (ho : On A.bc w w') : Jm B w' A { j with c := c' } ∧ Jv A A w w' := by
  have keep : ∀ {k cs t}, w.heap[k]? = some (Obj.cells cs t (0, 0)) → t ≠ 77 → w'.heap[k]? = w.heap[k]? := fun {k cs t} e1 ht => ho.block k (lt_of_block e1) (blk_ne e1 h.cb ht)
  refine ⟨⟨(keep h.hj (by decide)).trans h.hj, hc, h.tm.onC (by decide) h.cb ho, ?_, ?_, h.la, h.lb⟩, ⟨ho.os, ho.tape, ho.output, ho.size, fun k hk hn => ho.block k hk fun e => hn (.inr (.inl e)), fun k hk => .inl hk⟩⟩
  · refine own_keep h.rw_ fun k hk => ?_
    obtain ⟨cs, hcs⟩ := own_blk h.rw_ hk
    exact keep hcs (by decide)
  · refine own_keep h.rd fun k hk => ?_
    obtain ⟨cs, hcs⟩ := own_blk h.rd hk
    exact keep hcs (by decide)
/-- the table is turned -/
theorem Jm.onT (h : Jm B w A j) {D' : Dk} (ht : Tm 92 B w' A.tb A.tg A.tc [D']) (ho : On A.tg w w') : Jm B w' A { j with D := D' } ∧ Jv A A w w' := by
  obtain ⟨cg, hcg⟩ := own_blk h.tm.row (k := A.tg) rfl
  have keep : ∀ {k cs t}, w.heap[k]? = some (Obj.cells cs t (0, 0)) → t ≠ 96 → w'.heap[k]? = w.heap[k]? := fun {k cs t} e1 ht => ho.block k (lt_of_block e1) (blk_ne e1 hcg ht)
  refine ⟨⟨(keep h.hj (by decide)).trans h.hj, (keep h.cb (by decide)).trans h.cb, ht, ?_, ?_, h.la, h.lb⟩, ⟨ho.os, ho.tape, ho.output, ho.size, fun k hk hn => ho.block k hk fun e => hn (.inr (.inr (.inl e))), fun k hk => .inl hk⟩⟩
  · refine own_keep h.rw_ fun k hk => ?_
    obtain ⟨cs, hcs⟩ := own_blk h.rw_ hk
    exact keep hcs (by decide)
  · refine own_keep h.rd fun k hk => ?_
    obtain ⟨cs, hcs⟩ := own_blk h.rd hk
    exact keep hcs (by decide)
theorem Cl.ask_k {c : Cl} (hk : c.m.k = 0) (hl : c.la ≤ N) (hn : N ≤ 4194304) (hs : c.se ≠ 0) (m : Sm) (hm : m.k = 2 ∨ m.k = 3 ∨ m.k = 4) : (c.ask m).c.m.k = m.k := by
  unfold Cl.ask
  rw [if_neg (by omega), if_neg (fun x => x hk), if_neg (by omega)]
theorem Cl.hello_k {c : Cl} (hk : c.m.k = 0) : c.hello.c.m.k = 1 ∧ c.hello.e = 0 := by
  unfold Cl.hello
  rw [if_pos hk]
  exact ⟨rfl, rfl⟩
set_option maxHeartbeats 1000000 in
set_option maxRecDepth 8000 in
theorem asks_any (hI : Inv own N j) (hN : N + 1 ≤ 4194304) (h : Jm B w A j) (n : Int) : Calls Try.prog 48 #[.pointer (some ⟨A.a, 0, none⟩), .int .i64 n] w fun e w' => e = .returned (.tuple #[]) ∧ ∃ j', Inv own (N + 1) j' ∧ Jm B w' A j' ∧ Jv A A w w' := by
  have HI := hide hI
  have HM := hide h
  have HBu0 := hide (busy_any h.cb)
  have a0 := h.cells.1
  have a4 := h.cells.2.2.2.2.1
  have az := h.z 4
  have q0 := hI.a0
  have q1 := Int.le_trans hI.a1 hI.n1
  clear hI h
  by_cases hz : j.c.m.k = 0
  · have b0 : (j.c.m.k != 0) = false := by rw [hz]; rfl
    have HZ := hide hz
    clear hz
    have HSe := hide (sess_any HM.out.cb)
    by_cases hs : j.c.se = 0
    · have HZ2 := hide hs
      have bs : (j.c.se == 0) = true := by rw [hs]; rfl
      clear hs
      go_enter Try.func48, Try.ntmps48
      go_wp2_with fail
      refine HBu0.out.mono ?_
      rintro e w2 ⟨rfl, rfl⟩
      clear HBu0
      go_wp2_with fail
      · have HA := hide (hello_any HM.out.cb)
        have HI2 := hide (HI.out.hello hN HZ.out)
        have HK := hide (Cl.hello_k HZ.out)
        rw [HK.out.2] at HA
        obtain ⟨c9, hc9⟩ : ∃ c9, j.c.hello.c = c9 := ⟨_, rfl⟩
        rw [hc9] at HA HI2 HK
        clear hc9
        refine HSe.out.mono ?_
        rintro e w3 ⟨rfl, rfl⟩
        go_wp2_with fail
        refine HA.out.mono ?_
        clear HA
        rintro e w1 ⟨rfl, hc, ho⟩
        have HM1 := hide (HM.out.onC hc ho)
        have HBu := hide (busy_any hc)
        have b2 : (c9.m.k != 0) = true := by rw [HK.out.1]; rfl
        obtain ⟨d0, d1, d2, d3, d4, d5, d6, d7⟩ := HM1.out.1.cells
        have dz := HM1.out.1.z 4
        have dl := HM1.out.1.lt
        clear hc ho a0 a4 az
        go_wp2_with fail
        refine HBu.out.mono ?_
        rintro e w4 ⟨rfl, rfl⟩
        clear HBu
        go_wp2_with fail
        go_end0
        exact ⟨rfl, _, HI2.out, (HM1.out.1.turn 4 _ (j' := { j with c := c9, asked := j.asked + 1 }) (heap_set_self _ _ _ _ _ _ _ HM1.out.1.hj) rfl rfl rfl rfl).1, HM1.out.2.trans (HM1.out.1.turn 4 _ (j' := { j with c := c9, asked := j.asked + 1 }) (heap_set_self _ _ _ _ _ _ _ HM1.out.1.hj) rfl rfl rfl rfl).2⟩
      · have HA := hide (hello_any HM.out.cb)
        have HI2 := hide (HI.out.hello hN HZ.out)
        have HK := hide (Cl.hello_k HZ.out)
        rw [HK.out.2] at HA
        obtain ⟨c9, hc9⟩ : ∃ c9, j.c.hello.c = c9 := ⟨_, rfl⟩
        rw [hc9] at HA HI2 HK
        clear hc9
        refine HSe.out.mono ?_
        rintro e w3 ⟨rfl, rfl⟩
        go_wp2_with fail
        refine HA.out.mono ?_
        clear HA
        rintro e w1 ⟨rfl, hc, ho⟩
        have HM1 := hide (HM.out.onC hc ho)
        have HBu := hide (busy_any hc)
        have b2 : (c9.m.k != 0) = true := by rw [HK.out.1]; rfl
        obtain ⟨d0, d1, d2, d3, d4, d5, d6, d7⟩ := HM1.out.1.cells
        have dz := HM1.out.1.z 4
        have dl := HM1.out.1.lt
        clear hc ho a0 a4 az
        go_wp2_with fail
        refine HBu.out.mono ?_
        rintro e w4 ⟨rfl, rfl⟩
        clear HBu
        go_wp2_with fail
        go_end0
        exact ⟨rfl, _, HI2.out, (HM1.out.1.turn 4 _ (j' := { j with c := c9, asked := j.asked + 1 }) (heap_set_self _ _ _ _ _ _ _ HM1.out.1.hj) rfl rfl rfl rfl).1, HM1.out.2.trans (HM1.out.1.turn 4 _ (j' := { j with c := c9, asked := j.asked + 1 }) (heap_set_self _ _ _ _ _ _ _ HM1.out.1.hj) rfl rfl rfl rfl).2⟩
      · have HA := hide (hello_any HM.out.cb)
        have HI2 := hide (HI.out.hello hN HZ.out)
        have HK := hide (Cl.hello_k HZ.out)
        rw [HK.out.2] at HA
        obtain ⟨c9, hc9⟩ : ∃ c9, j.c.hello.c = c9 := ⟨_, rfl⟩
        rw [hc9] at HA HI2 HK
        clear hc9
        refine HSe.out.mono ?_
        rintro e w3 ⟨rfl, rfl⟩
        go_wp2_with fail
        refine HA.out.mono ?_
        clear HA
        rintro e w1 ⟨rfl, hc, ho⟩
        have HM1 := hide (HM.out.onC hc ho)
        have HBu := hide (busy_any hc)
        have b2 : (c9.m.k != 0) = true := by rw [HK.out.1]; rfl
        obtain ⟨d0, d1, d2, d3, d4, d5, d6, d7⟩ := HM1.out.1.cells
        have dz := HM1.out.1.z 4
        have dl := HM1.out.1.lt
        clear hc ho a0 a4 az
        go_wp2_with fail
        refine HBu.out.mono ?_
        rintro e w4 ⟨rfl, rfl⟩
        clear HBu
        go_wp2_with fail
        go_end0
        exact ⟨rfl, _, HI2.out, (HM1.out.1.turn 4 _ (j' := { j with c := c9, asked := j.asked + 1 }) (heap_set_self _ _ _ _ _ _ _ HM1.out.1.hj) rfl rfl rfl rfl).1, HM1.out.2.trans (HM1.out.1.turn 4 _ (j' := { j with c := c9, asked := j.asked + 1 }) (heap_set_self _ _ _ _ _ _ _ HM1.out.1.hj) rfl rfl rfl rfl).2⟩
    · have HZ2 := hide hs
      have bs : (j.c.se == 0) = false := by simpa using hs
      clear hs
      go_enter Try.func48, Try.ntmps48
      go_wp2_with fail
      refine HBu0.out.mono ?_
      rintro e w2 ⟨rfl, rfl⟩
      clear HBu0
      go_wp2_with fail
      · have HA := hide (ask_any HI.out.ok HM.out.cb { zS 3 with ba := 1 })
        have HQ := hide (HI.out.ask hN HZ.out HZ2.out (m := { zS 3 with ba := 1 }) (by decide))
        have HI2 := hide HQ.out.2
        have HK := hide (Cl.ask_k HZ.out HI.out.la HI.out.n1 HZ2.out { zS 3 with ba := 1 } (by decide))
        rw [HQ.out.1] at HA
        clear HQ
        obtain ⟨c9, hc9⟩ : ∃ c9, (j.c.ask { zS 3 with ba := 1 }).c = c9 := ⟨_, rfl⟩
        rw [hc9] at HA HI2 HK
        clear hc9
        simp only [zS, e0, smC] at HA
        rw [show ((0 : Nat) : Int) = 0 from rfl] at HA
        refine HSe.out.mono ?_
        rintro e w3 ⟨rfl, rfl⟩
        go_wp2_with fail
        refine HA.out.mono ?_
        clear HA
        rintro e w1 ⟨rfl, hc, ho⟩
        have HM1 := hide (HM.out.onC hc ho)
        have HBu := hide (busy_any hc)
        have b2 : (c9.m.k != 0) = true := by rw [HK.out]; rfl
        obtain ⟨d0, d1, d2, d3, d4, d5, d6, d7⟩ := HM1.out.1.cells
        have dz := HM1.out.1.z 4
        have dl := HM1.out.1.lt
        clear hc ho a0 a4 az
        go_wp2_with fail
        refine HBu.out.mono ?_
        rintro e w4 ⟨rfl, rfl⟩
        clear HBu
        go_wp2_with fail
        go_end0
        exact ⟨rfl, _, HI2.out, (HM1.out.1.turn 4 _ (j' := { j with c := c9, asked := j.asked + 1 }) (heap_set_self _ _ _ _ _ _ _ HM1.out.1.hj) rfl rfl rfl rfl).1, HM1.out.2.trans (HM1.out.1.turn 4 _ (j' := { j with c := c9, asked := j.asked + 1 }) (heap_set_self _ _ _ _ _ _ _ HM1.out.1.hj) rfl rfl rfl rfl).2⟩
      · have HA := hide (ask_any HI.out.ok HM.out.cb { zS 4 with ba := 1 })
        have HQ := hide (HI.out.ask hN HZ.out HZ2.out (m := { zS 4 with ba := 1 }) (by decide))
        have HI2 := hide HQ.out.2
        have HK := hide (Cl.ask_k HZ.out HI.out.la HI.out.n1 HZ2.out { zS 4 with ba := 1 } (by decide))
        rw [HQ.out.1] at HA
        clear HQ
        obtain ⟨c9, hc9⟩ : ∃ c9, (j.c.ask { zS 4 with ba := 1 }).c = c9 := ⟨_, rfl⟩
        rw [hc9] at HA HI2 HK
        clear hc9
        simp only [zS, e0, smC] at HA
        rw [show ((0 : Nat) : Int) = 0 from rfl] at HA
        refine HSe.out.mono ?_
        rintro e w3 ⟨rfl, rfl⟩
        go_wp2_with fail
        refine HA.out.mono ?_
        clear HA
        rintro e w1 ⟨rfl, hc, ho⟩
        have HM1 := hide (HM.out.onC hc ho)
        have HBu := hide (busy_any hc)
        have b2 : (c9.m.k != 0) = true := by rw [HK.out]; rfl
        obtain ⟨d0, d1, d2, d3, d4, d5, d6, d7⟩ := HM1.out.1.cells
        have dz := HM1.out.1.z 4
        have dl := HM1.out.1.lt
        clear hc ho a0 a4 az
        go_wp2_with fail
        refine HBu.out.mono ?_
        rintro e w4 ⟨rfl, rfl⟩
        clear HBu
        go_wp2_with fail
        go_end0
        exact ⟨rfl, _, HI2.out, (HM1.out.1.turn 4 _ (j' := { j with c := c9, asked := j.asked + 1 }) (heap_set_self _ _ _ _ _ _ _ HM1.out.1.hj) rfl rfl rfl rfl).1, HM1.out.2.trans (HM1.out.1.turn 4 _ (j' := { j with c := c9, asked := j.asked + 1 }) (heap_set_self _ _ _ _ _ _ _ HM1.out.1.hj) rfl rfl rfl rfl).2⟩
      · have HA := hide (ask_any HI.out.ok HM.out.cb { zS 2 with ba := 1 })
        have HQ := hide (HI.out.ask hN HZ.out HZ2.out (m := { zS 2 with ba := 1 }) (by decide))
        have HI2 := hide HQ.out.2
        have HK := hide (Cl.ask_k HZ.out HI.out.la HI.out.n1 HZ2.out { zS 2 with ba := 1 } (by decide))
        rw [HQ.out.1] at HA
        clear HQ
        obtain ⟨c9, hc9⟩ : ∃ c9, (j.c.ask { zS 2 with ba := 1 }).c = c9 := ⟨_, rfl⟩
        rw [hc9] at HA HI2 HK
        clear hc9
        simp only [zS, e0, smC] at HA
        rw [show ((0 : Nat) : Int) = 0 from rfl] at HA
        refine HSe.out.mono ?_
        rintro e w3 ⟨rfl, rfl⟩
        go_wp2_with fail
        refine HA.out.mono ?_
        clear HA
        rintro e w1 ⟨rfl, hc, ho⟩
        have HM1 := hide (HM.out.onC hc ho)
        have HBu := hide (busy_any hc)
        have b2 : (c9.m.k != 0) = true := by rw [HK.out]; rfl
        obtain ⟨d0, d1, d2, d3, d4, d5, d6, d7⟩ := HM1.out.1.cells
        have dz := HM1.out.1.z 4
        have dl := HM1.out.1.lt
        clear hc ho a0 a4 az
        go_wp2_with fail
        refine HBu.out.mono ?_
        rintro e w4 ⟨rfl, rfl⟩
        clear HBu
        go_wp2_with fail
        go_end0
        exact ⟨rfl, _, HI2.out, (HM1.out.1.turn 4 _ (j' := { j with c := c9, asked := j.asked + 1 }) (heap_set_self _ _ _ _ _ _ _ HM1.out.1.hj) rfl rfl rfl rfl).1, HM1.out.2.trans (HM1.out.1.turn 4 _ (j' := { j with c := c9, asked := j.asked + 1 }) (heap_set_self _ _ _ _ _ _ _ HM1.out.1.hj) rfl rfl rfl rfl).2⟩
  · have b0 : (j.c.m.k != 0) = true := by simpa using hz
    go_enter Try.func48, Try.ntmps48
    go_wp2_with fail
    refine HBu0.out.mono ?_
    rintro e w2 ⟨rfl, rfl⟩
    go_wp2_with fail
    refine bodyPost_ret (results_none rfl _ _ _) rfl ?_
    exact ⟨rfl, j, HI.out.up hN, HM.out, Jv.refl _ _⟩
end
end Go.Proofs.Ytonoogiadgjodaa
