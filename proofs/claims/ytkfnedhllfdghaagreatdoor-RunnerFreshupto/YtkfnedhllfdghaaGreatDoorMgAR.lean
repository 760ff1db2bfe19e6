import Derived.Test.YtkfnedhllfdghaaGreatDoorMgAQ
import Derived.Deep.AppendLies
import Derived.Deep.RegionHeld3

section
namespace Go.Proofs.YtkfnedhllfdghaaGreatDoor
set_option maxRecDepth 20000
open Go.RowKit Go.Shelf

namespace Pg
def flat (xs : List In) : List Value := xs.flatMap In.cs
def manyS (b : ByteArray) : Nat → Nat × Nat → List In → List In × (Nat × Nat)
  | 0, s, acc => (acc, s)
  | n + 1, s, acc => manyS b n (insS b s).2 (acc ++ [(insS b s).1])
def rowS (b : ByteArray) : List In × (Nat × Nat) := manyS b (listS b 64 (numS b 1024 (0, 0)).2).1 (listS b 64 (numS b 1024 (0, 0)).2).2 []
def unpackS (b : ByteArray) : (Nat × List In) × Int := if 1024 < b.size then ((0, []), 57) else if endE b ((rowS b).2.1 : Int) ((rowS b).2.2 : Int) ≠ 0 then ((0, []), 54) else if (checkE ((numS b 1024 (0, 0)).1 : Int) (rowS b).1).1 ≠ 0 then ((0, []), 54) else (((numS b 1024 (0, 0)).1, (rowS b).1), 0)
end Pg
theorem flat_len (xs : List In) : (Pg.flat xs).length = xs.length * 6 := by
  unfold Pg.flat
  induction xs with
  | nil => rfl
  | cons x r ih => rw [List.flatMap_cons, List.length_append, ih]; simp only [In.cs, List.length_cons, List.length_nil]; omega
theorem flat_snoc (xs : List In) (x : In) : Pg.flat (xs ++ [x]) = Pg.flat xs ++ [.int .i64 x.op, .int .i64 x.a, .int .i64 x.b, .int .i64 x.c, .int .i64 x.n, .int .u64 (x.k : Int)] := by
  unfold Pg.flat
  rw [List.flatMap_append]
  rfl
theorem own_grown {w w' : World} {base e size n : Nat} {v : Value} {xs : List Value} {r : Option Nat} (h : w.ownsRow base e size v n xs) (g : w.grownBy w' r) (hn : ∀ k, v.ownBlock = some k → some k ≠ r) : w'.ownsRow base e size v n xs := by
  refine ⟨h.1, ?_⟩
  rcases h.2 with h1 | ⟨k, cap, cur, rfl, hb, hg, h2⟩
  · exact .inl h1
  · exact .inr ⟨k, cap, cur, rfl, hb, (g.block k (lt_of_block hg) (hn k rfl)).trans hg, h2⟩
theorem own_below {w w' : World} {base e size n : Nat} {v : Value} {xs : List Value} (h : w.ownsRow base e size v n xs) (g : Below w.heap.size w w') : w'.ownsRow base e size v n xs := own_grown h (grown_below g none) (fun _ _ => by simp)
theorem own_cd {w : World} {base : Nat} {v : Value} {xs : List In} (h : w.ownsRow base 189 6 v xs.length (Pg.flat xs)) : Cd w v xs := by
  refine ⟨?_⟩
  rcases h.2 with ⟨rfl, h1⟩ | ⟨g, cap, cur, rfl, hb, hg, h2⟩
  · exact ⟨none, 0, by rw [h1], fun h0 => by omega⟩
  · refine ⟨_, cap, rfl, fun h0 => ⟨g, 0, rfl, lt_of_block hg, fun j hj i u hi => ?_⟩⟩
    have hi6 : i < 6 := (List.getElem?_eq_some_iff.1 hi).1
    rw [← flat_get In.cs 6 (fun _ => rfl) xs j i hj hi6] at hi
    have := h.cells (g := g) rfl (j * 6 + i) u hi
    rw [Addr.add_lit] at this
    rw [Nat.add_assoc]
    exact this
theorem Tryz.infoI : (Tryz.prog.info? 189).map (fun i => (i.zero, i.size, i.bytes)) = some (some (.agg #[.int .i64 0, .int .i64 0, .int .i64 0, .int .i64 0, .int .i64 0, .int .u64 0]), 6, 48) := by kernel_rfl
/-- a program's block -/
def Pb (w : World) (B : Nat) (fuel : Int) (v : Value) : Prop := w.heap[B]? = some (.cells #[.int .i64 fuel, v] 62 (0, 0))
theorem Pb.lt {w : World} {B : Nat} {f : Int} {v : Value} (h : Pb w B f v) : B < w.heap.size := lt_of_block h
theorem Pb.grown {w w' : World} {B : Nat} {f : Int} {v : Value} (h : Pb w B f v) {r : Option Nat} (g : w.grownBy w' r) (hn : some B ≠ r) : Pb w' B f v := (g.block B h.lt hn).trans h
theorem Pb.c0 {w : World} {B : Nat} {f : Int} {v : Value} (h : Pb w B f v) : w.cell? ⟨B, 0, none⟩ = some (.int .i64 f) := by unfold Pb at h; simp [World.cell?, h]
theorem Pb.c1 {w : World} {B : Nat} {f : Int} {v : Value} (h : Pb w B f v) : w.cell? ⟨B, 1, none⟩ = some v := by unfold Pb at h; simp [World.cell?, h]
theorem Pb.z {w : World} {B : Nat} {f : Int} {v : Value} (h : Pb w B f v) (k : Nat) : w.frozen? ⟨B, k, none⟩ = false := by unfold Pb at h; simp [World.frozen?, h]
theorem Pb.set1 {w : World} {B : Nat} {f : Int} {v : Value} (h : Pb w B f v) (u : Value) : Pb (w.setCell ⟨B, 1, none⟩ u) B f u := by
  unfold Pb World.setCell at *
  simp [Array.getElem?_modify, h]
theorem Pb.set0 {w : World} {B : Nat} {f : Int} {v : Value} (h : Pb w B f v) (g : Int) : Pb (w.setCell ⟨B, 0, none⟩ (.int .i64 g)) B g v := by
  unfold Pb World.setCell at *
  simp [Array.getElem?_modify, h]
theorem manyS_succ (b : ByteArray) (n : Nat) (s : Nat × Nat) (acc : List In) : Pg.manyS b (n + 1) s acc = Pg.manyS b n (Pg.insS b s).2 (acc ++ [(Pg.insS b s).1]) := rfl
theorem fldsS_le (b : ByteArray) : ∀ (l : List UInt8) (r : In × (Nat × Nat)), r.2.1 ≤ b.size → r.1.k < 18446744073709551616 → (Pg.fldsS b l r).2.1 ≤ b.size ∧ (Pg.fldsS b l r).1.k < 18446744073709551616
  | [], r, h, hk => ⟨h, hk⟩
  | c :: t, r, h, hk => by
    unfold Pg.fldsS
    have h1 := numS_le b 64 r.2 h
    have h2 := bitsS_le b r.2 h
    refine fldsS_le b t _ ?_ ?_
    · unfold Pg.fldS
      split
      · exact h2.2
      · exact h1.2
    · unfold Pg.fldS
      split
      · exact h2.1
      · unfold Pg.setF
        repeat' split
        all_goals first | exact hk | (show (Pg.numS b 64 r.2).1 < _; omega)
theorem insS_le (b : ByteArray) (s : Nat × Nat) (h : s.1 ≤ b.size) : (Pg.insS b s).2.1 ≤ b.size ∧ (Pg.insS b s).1.k < 18446744073709551616 := by
  unfold Pg.insS
  exact fldsS_le b _ _ (numS_le b 64 s h).2 (show (0 : Nat) < 18446744073709551616 by decide)
theorem manyS_le (b : ByteArray) : ∀ (n : Nat) (s : Nat × Nat) (acc : List In), s.1 ≤ b.size → (∀ x ∈ acc, x.k < 18446744073709551616) → (Pg.manyS b n s acc).2.1 ≤ b.size ∧ (∀ x ∈ (Pg.manyS b n s acc).1, x.k < 18446744073709551616) ∧ (Pg.manyS b n s acc).1.length = acc.length + n
  | 0, s, acc, h, ha => ⟨h, ha, rfl⟩
  | n + 1, s, acc, h, ha => by
    rw [manyS_succ]
    have h1 := insS_le b s h
    have h2 := manyS_le b n (Pg.insS b s).2 (acc ++ [(Pg.insS b s).1]) h1.1 (fun x hx => by
      rcases List.mem_append.1 hx with hx | hx
      · exact ha x hx
      · rw [List.mem_singleton.1 hx]; exact h1.2)
    refine ⟨h2.1, h2.2.1, ?_⟩
    rw [h2.2.2, List.length_append]
    simp only [List.length_cons, List.length_nil]
    omega
theorem own_slice {w : World} {base e size n : Nat} {v : Value} {xs : List Value} (h : w.ownsRow base e size v n xs) : ∃ ad cap, v = .slice ad n cap := by
  rcases h.2 with ⟨rfl, h1⟩ | ⟨g, cap, cur, rfl, _⟩
  · exact ⟨none, 0, by rw [h1]⟩
  · exact ⟨_, _, rfl⟩
/-- behind an appending to a program's code -/
theorem appended {w wr w5 w7 : World} {Z B P : Nat} {F F0 : Int} {v : Value} {xs : List In} {x : In} {o : Obj} {g cap : Nat} (hZB : Z ≠ P) (hwP : w.heap.size ≤ P)
    (HZ : Pb wr Z F0 (.slice none 0 0)) (HP : Pb wr P F v) (HG : ∀ g, v.ownBlock = some g → P < g) (hG2 : ∀ g, v.ownBlock = some g → g ≠ B ∧ g ≠ Z) (HB : Below w.heap.size w wr) (hBP : B ≠ P) (hBZ : B ≠ Z) (hwB : w.heap.size ≤ B)
    (g5 : wr.grownBy w5 (some B)) (hown : w7.ownsRow w.heap.size 189 6 (.slice (some ⟨g, 0, none⟩) (xs.length + 1) cap) (xs.length + 1) (Pg.flat xs ++ [.int .i64 x.op, .int .i64 x.a, .int .i64 x.b, .int .i64 x.c, .int .i64 x.n, .int .u64 (x.k : Int)])) (g7 : (w5.alloc o).grownBy w7 v.ownBlock) (hat : v.ownBlock = some g ∨ g = w5.heap.size + 1) :
    Pb (w7.setCell ⟨P, 1, none⟩ (.slice (some ⟨g, 0, none⟩) (xs.length + 1) cap)) Z F0 (.slice none 0 0) ∧ Pb (w7.setCell ⟨P, 1, none⟩ (.slice (some ⟨g, 0, none⟩) (xs.length + 1) cap)) P F (.slice (some ⟨g, 0, none⟩) (xs.length + 1) cap) ∧
    (w7.setCell ⟨P, 1, none⟩ (.slice (some ⟨g, 0, none⟩) (xs.length + 1) cap)).ownsRow w.heap.size 189 6 (.slice (some ⟨g, 0, none⟩) (xs.length + 1) cap) (xs ++ [x]).length (Pg.flat (xs ++ [x])) ∧
    (∀ k, (Value.slice (some ⟨g, 0, none⟩) (xs.length + 1) cap).ownBlock = some k → P < k) ∧ Below w.heap.size w (w7.setCell ⟨P, 1, none⟩ (.slice (some ⟨g, 0, none⟩) (xs.length + 1) cap)) ∧
    (∀ k, k < wr.heap.size → k ≠ B → k ≠ P → v.ownBlock ≠ some k → (w7.setCell ⟨P, 1, none⟩ (.slice (some ⟨g, 0, none⟩) (xs.length + 1) cap)).heap[k]? = wr.heap[k]?) ∧
    (∀ k o', w5.heap[k]? = some o' → k ≠ P → v.ownBlock ≠ some k → (w7.setCell ⟨P, 1, none⟩ (.slice (some ⟨g, 0, none⟩) (xs.length + 1) cap)).heap[k]? = some o') := by
  have hgP : P < g := by
    rcases hat with h | h
    · exact HG g h
    · have := g5.size; have := HP.lt; omega
  have hs := grown_set w7 P 1 (.slice (some ⟨g, 0, none⟩) (xs.length + 1) cap)
  have hkeep : ∀ k o', w5.heap[k]? = some o' → v.ownBlock ≠ some k → w7.heap[k]? = some o' := fun k o' hk hv =>
    (g7.block k (by have := lt_of_block hk; simp; omega) (fun e => hv e.symm)).trans ((Below.heap_alloc w5 o k (lt_of_block hk)).trans hk)
  have hP7 : Pb w7 P F v := hkeep P _ (HP.grown g5 (by simp; omega)) (fun e => by have := HG P e; omega)
  have hZ7 : Pb w7 Z F0 (.slice none 0 0) := hkeep Z _ (HZ.grown g5 (by simp; omega)) (fun e => (hG2 Z e).2 rfl)
  refine ⟨hZ7.grown hs (by simp; omega), hP7.set1 _, ?_, ?_, ?_, ?_, ?_⟩
  · rw [flat_snoc, List.length_append]
    exact own_grown hown hs (fun k hk => by simp only [Value.ownBlock] at hk; injection hk with hk; simp; omega)
  · intro k hk
    simp only [Value.ownBlock] at hk
    injection hk with hk
    omega
  · have h5 : Below w.heap.size w w5 := HB.grown g5 HB.size (fun k hk => by injection hk with hk; omega)
    have h6 := h5.alloc h5.size o
    have h7 : Below w.heap.size w w7 := h6.grown g7 h6.size (fun k hk => by have := HG k hk; omega)
    exact h7.setCell (p := ⟨P, 1, none⟩) hwP _
  · intro k hk hkB hkP hv
    obtain ⟨o', ho'⟩ : ∃ o', wr.heap[k]? = some o' := ⟨_, Array.getElem?_eq_getElem hk⟩
    rw [ho']
    exact (hs.block k (Nat.lt_of_lt_of_le (Nat.lt_of_lt_of_le hk g5.size) (Nat.le_trans (by simp) g7.size)) (by simp; omega)).trans (hkeep k o' ((g5.block k hk (by simp; omega)).trans ho') hv)
  · intro k o' hk hkP hv
    have h7 := hkeep k o' hk hv
    exact (hs.block k (lt_of_block h7) (by simp; omega)).trans h7
set_option maxRecDepth 10000 in
set_option maxHeartbeats 1000000 in
theorem unpack_any (b : ByteArray) (w : World) :
    Calls Tryz.prog 184 #[.string b] w fun e w' => ∃ v, e = .returned (.tuple #[.agg #[.int .i64 ((Pg.unpackS b).1.1 : Int), v], .int .i64 (Pg.unpackS b).2]) ∧ w'.ownsRow w.heap.size 189 6 v (Pg.unpackS b).1.2.length (Pg.flat (Pg.unpackS b).1.2) ∧ Below w.heap.size w w' := by
  obtain ⟨R, hRes⟩ : ∃ R, Pg.unpackS b = R := ⟨_, rfl⟩
  rw [hRes]
  unfold Pg.unpackS at hRes
  by_cases hlen : 1024 < b.size
  · rw [if_pos hlen] at hRes
    rw [← hRes]
    clear hRes
    go_enter Tryz.func184, Tryz.ntmps184
    go_wp2
    refine bodyPost_ret (by rw [results_cell_tmp rfl]; go_simp; rfl) rfl ?_
    exact ⟨_, rfl, World.ownsRow_nil _ _ _ _, below_one w _⟩
  rw [if_neg hlen] at hRes
  have hb : b.size ≤ 140737488351232 := by omega
  have hl1 := numS_le b 1024 (0, 0) (Nat.zero_le _)
  have HN := hide (fun w1 B (h1 : Rd w1 B b 0 0) => rnum_st (most := 1024) (s := (0, 0)) h1 (Nat.zero_le _) hb)
  unfold Pg.rowS at hRes
  generalize Pg.numS b 1024 (0, 0) = F at *
  obtain ⟨F, sF⟩ := F
  have hl2 := listS_le b 64 sF hl1.2
  have HLs := hide (fun w1 B (h1 : Rd w1 B b (sF.1 : Int) (sF.2 : Int)) => rlist_st (most := 64) (by decide) h1 hl1.2 hb)
  simp only [] at hRes
  generalize Pg.listS b 64 sF = L at *
  obtain ⟨n, sL⟩ := L
  simp only [] at hRes
  have HRes := hide hRes
  clear hRes
  have hlt : ¬ (1024 : Int) < (b.size : Int) := by omega
  go_enter Tryz.func184, Tryz.ntmps184
  go_wp2_with fail
  refine (read_any b _).mono ?_
  rintro e w1 ⟨rfl, hR1, hb1⟩
  rw [World.size_alloc] at hR1
  have hz1 : Pb w1 w.heap.size 0 (.slice none 0 0) := (hb1.block w.heap.size (by simp)).trans (heap_alloc_new w _)
  have HZ1 := hide hz1
  have HR1 := hide hR1
  have HB1 : Hid (Below w.heap.size w w1) := (below_one w _).trans (hb1.mono (by simp))
  clear hz1 hR1 hb1
  go_wp2_with fail
  refine (HN.out w1 (w.heap.size + 1) HR1.out).mono ?_
  rintro e w2 ⟨rfl, hR2, hg2⟩
  have HZ2 := hide (HZ1.out.grown hg2 (by simp))
  have HB2 : Hid (Below w.heap.size w w2) := HB1.out.grown hg2 HB1.out.size (fun k hk => by injection hk with hk; omega)
  have HR2 := hide hR2
  have hF : F ≤ 1024 := hl1.1
  have hl21 : w.heap.size + 1 < w2.heap.size := hR2.lt
  clear hR2 hg2 HZ1 HB1 HR1 HN
  go_wp2_with fail
  have HR3 := hide (HR2.out.alloc (.cells #[.int .i64 (F : Int), .slice none 0 0] 62))
  have HZ3 := hide (HZ2.out.grown (grown_one w2 (.cells #[.int .i64 (F : Int), .slice none 0 0] 62) none) (by simp))
  have HB3 := hide (HB2.out.alloc HB2.out.size (.cells #[.int .i64 (F : Int), .slice none 0 0] 62))
  have HP3 : Hid (Pb (w2.alloc (.cells #[.int .i64 (F : Int), .slice none 0 0] 62)) w2.heap.size (F : Int) (.slice none 0 0)) := heap_alloc_new w2 _
  generalize w2.alloc (.cells #[.int .i64 (F : Int), .slice none 0 0] 62) = w3 at *
  refine (HLs.out w3 (w.heap.size + 1) HR3.out).mono ?_
  rintro e w4 ⟨rfl, hR4, hg4⟩
  have HR4 := hide hR4
  have HZ4 := hide (HZ3.out.grown hg4 (by simp))
  have HP4 := hide (HP3.out.grown hg4 (by simp; omega))
  have HB4 : Hid (Below w.heap.size w w4) := HB3.out.grown hg4 HB3.out.size (fun k hk => by injection hk with hk; omega)
  have hn64 : n ≤ 64 := hl2.1
  clear hR4 hg4 HR3 HZ3 HP3 HB3 HLs HR2 HZ2 HB2
  go_wp2_with fail
  go_loopw [22] (fun s22 wr => ∃ (k : Nat) (xs : List In) (s : Nat × Nat) (v : Value), k ≤ n ∧ xs.length = k ∧ s.1 ≤ b.size ∧ s22 = .int .i64 (k : Int) ∧ Hid (Rd wr (w.heap.size + 1) b (s.1 : Int) (s.2 : Int)) ∧ Hid (Pb wr w.heap.size 0 (.slice none 0 0)) ∧ Hid (Pb wr w2.heap.size (F : Int) v) ∧ Hid (wr.ownsRow w.heap.size 189 6 v xs.length (Pg.flat xs)) ∧ Hid (∀ g, v.ownBlock = some g → w2.heap.size < g) ∧ Hid (Below w.heap.size w wr) ∧ Hid (Pg.manyS b n sL [] = Pg.manyS b (n - k) s xs)) (fun s _ => n - (intOf s).toNat)
  case atStart => exact ⟨0, [], sL, .slice none 0 0, Nat.zero_le _, rfl, hl2.2, rfl, HR4, HZ4, HP4, World.ownsRow_nil _ _ _ _, (fun g hg => by cases hg), HB4, rfl⟩
  case round =>
    obtain ⟨k, xs, s, v, hk, rfl, hs, rfl, HR, HZ, HP, HO, HG, HB, HE⟩ := hrel
    clear HR4 HZ4 HP4 HB4
    by_cases hkn : xs.length < n
    · have hki : (xs.length : Int) < (n : Int) := by omega
      have HI := hide (fun w1 (h1 : Rd w1 (w.heap.size + 1) b (s.1 : Int) (s.2 : Int)) => readIns_any h1 hs hb)
      have hsi := insS_le b s hs
      have HE2 : Hid (Pg.manyS b n sL [] = Pg.manyS b (n - (xs.length + 1)) (Pg.insS b s).2 (xs ++ [(Pg.insS b s).1])) := by
        refine HE.out.trans ?_
        rw [show n - xs.length = (n - (xs.length + 1)) + 1 by omega, manyS_succ]
      generalize Pg.insS b s = is at *
      obtain ⟨x, si⟩ := is
      have c1 := HP.out.c1
      have hpl := HP.out.lt
      clear HE
      go_wp2_with fail
      obtain ⟨i0, hi0, hz0, hz1, hz2⟩ := info_parts Tryz.infoI
      have c1d : wr.drew.cell? ⟨w2.heap.size, 1, none⟩ = some v := c1
      refine wp_region_held_drew (S := fun _ => True) (by kernel_rfl) trivial (fun hHeld => ?_)
      refine wpAnyH_take (i := 0) (v := (.pointer (some ⟨w2.heap.size, 1, none⟩))) rfl (by kernel_rfl) (by kernel_rfl) (by kernel_rfl) (fun _ _ _ h => h) (Or.inl ⟨by rfl, fun w1 hSw => by clear hHeld; go_simp⟩) hHeld ?_
      simp only [Act.put, List.setIfInBounds_toArray]
      refine wpAnyH_take (i := 2) (v := (.pointer (some ⟨w.heap.size + 1, 0, none⟩))) rfl (by kernel_rfl) (by kernel_rfl) (by kernel_rfl) (fun _ _ _ h => h) (Or.inl ⟨by rfl, fun w1 hSw => by clear hHeld; go_simp⟩) hHeld ?_
      try simp only [Act.put]
      refine wpAnyH_ready (rs := [1, 3]) (by kernel_rfl) (by simp) ?_
      refine AllReadyH.cons rfl (fun K hK => ?_) (AllReadyH.cons rfl (fun K hK => ?_) AllReadyH.nil)
      · go_simp
        refine hK.out _ _ trivial (fun hHeld => ?_)
        try simp only [Act.put]
        clear hK K
        refine wpAnyH_ready (rs := [3]) (by kernel_rfl) (by simp) ?_
        refine AllReadyH.cons rfl (fun K hK => ?_) AllReadyH.nil
        go_simp
        refine (HI.out _ (HR.out.drew 1)).mono ?_
        rintro e w5 ⟨rfl, hR5, hg5⟩
        have HR5 := hide hR5
        have HG5 : Hid (wr.grownBy w5 (some (w.heap.size + 1))) := ⟨hg5.os, hg5.tape, hg5.output, hg5.size, hg5.block⟩
        have c5 : w5.cell? ⟨w2.heap.size, 1, none⟩ = some v := (HP.out.grown HG5.out (by simp; omega)).c1
        have c6 : (w5.alloc (.cells #[.int .i64 x.op, .int .i64 x.a, .int .i64 x.b, .int .i64 x.c, .int .i64 x.n, .int .u64 (x.k : Int)] 189)).cell? ⟨w2.heap.size, 1, none⟩ = some v := Lib.cell?_alloc_some _ c5
        clear hR5 hg5
        refine hK.out _ _ trivial (fun hHeld => ?_)
        try simp only [Act.put]
        clear hK K
        refine wpAnyH_ready (rs := [4]) (by kernel_rfl) (by simp) ?_
        refine AllReadyH.cons rfl (fun K hK => ?_) AllReadyH.nil
        go_simp
        refine hK.out _ _ trivial (fun hHeld => ?_)
        try simp only [Act.put]
        clear hK K
        refine wpAnyH_ready (rs := [5]) (by kernel_rfl) (by simp) ?_
        refine AllReadyH.cons rfl (fun K hK => ?_) AllReadyH.nil
        refine step_append_lies _ rfl (.tmp 25) (.tmp 28) 60 rfl w.heap.size 189 i0 (.agg #[.int .i64 0, .int .i64 0, .int .i64 0, .int .i64 0, .int .i64 0, .int .u64 0]) 6 48 Tryz.underlying60 hi0 hz0 hz1 hz2 rfl (by decide) v xs.length (Pg.flat xs) rfl (own_grown (own_grown HO.out HG5.out (fun k hk => by have := HG.out k hk; simp; omega)) (grown_one w5 (.cells #[.int .i64 x.op, .int .i64 x.a, .int .i64 x.b, .int .i64 x.c, .int .i64 x.n, .int .u64 (x.k : Int)] 189) none) (fun _ _ => by simp)) ⟨w5.heap.size, 0, none⟩ 1 1 [.int .i64 x.op, .int .i64 x.a, .int .i64 x.b, .int .i64 x.c, .int .i64 x.n, .int .u64 (x.k : Int)] rfl rfl
          (World.news_of_block (cs := #[.int .i64 x.op, .int .i64 x.a, .int .i64 x.b, .int .i64 x.c, .int .i64 x.n, .int .u64 (x.k : Int)]) (t := 189) (fr := (0, 0)) (heap_alloc_new w5 _)) (by simp [Value.oneCell']) (by decide) (by unfold maxLen; omega) (by omega) (by have h1 := HB.out.size; have h2 := HG5.out.size; rw [World.size_alloc]; omega) (w5.heap.size + 1) (by rw [World.size_alloc]) ?_
        intro g cap' w7 hown hgrow hat _
        obtain ⟨q1, q2, q3, q4, q5, q6, q7⟩ := appended (P := w2.heap.size) (B := w.heap.size + 1) (Z := w.heap.size) (F := (F : Int)) (by omega) (by omega) HZ.out HP.out HG.out (fun k hk => by have := HG.out k hk; omega) HB.out (by omega) (by omega) (by omega) HG5.out hown hgrow hat
        have HQ1 := hide q1
        have HQ2 := hide q2
        have HQ3 := hide q3
        have HQ4 := hide q4
        have HQ5 := hide q5
        have HQ7 := hide q7
        have d1 : w7.cell? ⟨w2.heap.size, 1, none⟩ = some v := hgrow.cell c6 (fun e => absurd (HG.out _ e.symm) (Nat.lt_irrefl _))
        have dz : w7.frozen? ⟨w2.heap.size, 1, none⟩ = false := (hgrow.frozen_far ⟨w2.heap.size, 1, none⟩ (World.block_lt_of_cell? _ _ c6) (fun e => absurd (HG.out _ e.symm) (Nat.lt_irrefl _))).trans (((HP.out.grown HG5.out (by simp; omega)).grown (grown_one w5 (.cells #[.int .i64 x.op, .int .i64 x.a, .int .i64 x.b, .int .i64 x.c, .int .i64 x.n, .int .u64 (x.k : Int)] 189) none) (by simp)).z 1)
        clear hown hgrow hat q1 q2 q3 q4 q5 q6 q7
        refine hK.out _ _ trivial (fun hHeld => ?_)
        try simp only [Act.put]
        clear hK K
        refine wpAnyH_take (i := 6) (v := (.pointer (some ⟨w2.heap.size, 1, none⟩))) rfl (by kernel_rfl) (by kernel_rfl) (by kernel_rfl) (fun _ _ _ h => h) (Or.inl ⟨by rfl, fun w1 hSw => by clear hHeld; go_simp⟩) hHeld ?_
        try simp only [Act.put]
        refine wpAnyH_ready (rs := [7]) (by kernel_rfl) (by simp) ?_
        refine AllReadyH.cons rfl (fun K hK => ?_) AllReadyH.nil
        go_simp
        refine hK.out _ _ trivial (fun hHeld => ?_)
        refine wpAnyH_done (by kernel_rfl) ?_ _
        clear hHeld hK K
        have HR8 : Hid (Rd (w7.setCell ⟨w2.heap.size, 1, none⟩ (.slice (some ⟨g, 0, none⟩) (xs.length + 1) cap')) (w.heap.size + 1) b (si.1 : Int) (si.2 : Int)) := HQ7.out _ _ HR5.out (by omega) (fun e => by have := HG.out _ e; omega)
        clear HR5 HG5 c5 c6 d1 dz HQ7 HO HP HR HG HB HZ c1 c1d HI
        go_wp2
        go_roundw
        case rel => exact ⟨xs.length + 1, xs ++ [x], si, _, by omega, by rw [List.length_append]; rfl, hsi.1, by go_num, HR8, HQ1, HQ2, HQ3, HQ4, HQ5, HE2⟩
        case measure => simp [intOf]; omega
      · go_simp
        refine (HI.out _ (HR.out.drew 1)).mono ?_
        rintro e w5 ⟨rfl, hR5, hg5⟩
        have HR5 := hide hR5
        have HG5 : Hid (wr.grownBy w5 (some (w.heap.size + 1))) := ⟨hg5.os, hg5.tape, hg5.output, hg5.size, hg5.block⟩
        have c5 : w5.cell? ⟨w2.heap.size, 1, none⟩ = some v := (HP.out.grown HG5.out (by simp; omega)).c1
        have c6 : (w5.alloc (.cells #[.int .i64 x.op, .int .i64 x.a, .int .i64 x.b, .int .i64 x.c, .int .i64 x.n, .int .u64 (x.k : Int)] 189)).cell? ⟨w2.heap.size, 1, none⟩ = some v := Lib.cell?_alloc_some _ c5
        clear hR5 hg5
        refine hK.out _ _ trivial (fun hHeld => ?_)
        try simp only [Act.put]
        clear hK K
        refine wpAnyH_ready (rs := [1, 4]) (by kernel_rfl) (by simp) ?_
        refine AllReadyH.cons rfl (fun K hK => ?_) (AllReadyH.cons rfl (fun K hK => ?_) AllReadyH.nil)
        · go_simp
          refine hK.out _ _ trivial (fun hHeld => ?_)
          try simp only [Act.put]
          clear hK K
          refine wpAnyH_ready (rs := [4]) (by kernel_rfl) (by simp) ?_
          refine AllReadyH.cons rfl (fun K hK => ?_) AllReadyH.nil
          go_simp
          refine hK.out _ _ trivial (fun hHeld => ?_)
          try simp only [Act.put]
          clear hK K
          refine wpAnyH_ready (rs := [5]) (by kernel_rfl) (by simp) ?_
          refine AllReadyH.cons rfl (fun K hK => ?_) AllReadyH.nil
          refine step_append_lies _ rfl (.tmp 25) (.tmp 28) 60 rfl w.heap.size 189 i0 (.agg #[.int .i64 0, .int .i64 0, .int .i64 0, .int .i64 0, .int .i64 0, .int .u64 0]) 6 48 Tryz.underlying60 hi0 hz0 hz1 hz2 rfl (by decide) v xs.length (Pg.flat xs) rfl (own_grown (own_grown HO.out HG5.out (fun k hk => by have := HG.out k hk; simp; omega)) (grown_one w5 (.cells #[.int .i64 x.op, .int .i64 x.a, .int .i64 x.b, .int .i64 x.c, .int .i64 x.n, .int .u64 (x.k : Int)] 189) none) (fun _ _ => by simp)) ⟨w5.heap.size, 0, none⟩ 1 1 [.int .i64 x.op, .int .i64 x.a, .int .i64 x.b, .int .i64 x.c, .int .i64 x.n, .int .u64 (x.k : Int)] rfl rfl
            (World.news_of_block (cs := #[.int .i64 x.op, .int .i64 x.a, .int .i64 x.b, .int .i64 x.c, .int .i64 x.n, .int .u64 (x.k : Int)]) (t := 189) (fr := (0, 0)) (heap_alloc_new w5 _)) (by simp [Value.oneCell']) (by decide) (by unfold maxLen; omega) (by omega) (by have h1 := HB.out.size; have h2 := HG5.out.size; rw [World.size_alloc]; omega) (w5.heap.size + 1) (by rw [World.size_alloc]) ?_
          intro g cap' w7 hown hgrow hat _
          obtain ⟨q1, q2, q3, q4, q5, q6, q7⟩ := appended (P := w2.heap.size) (B := w.heap.size + 1) (Z := w.heap.size) (F := (F : Int)) (by omega) (by omega) HZ.out HP.out HG.out (fun k hk => by have := HG.out k hk; omega) HB.out (by omega) (by omega) (by omega) HG5.out hown hgrow hat
          have HQ1 := hide q1
          have HQ2 := hide q2
          have HQ3 := hide q3
          have HQ4 := hide q4
          have HQ5 := hide q5
          have HQ7 := hide q7
          have d1 : w7.cell? ⟨w2.heap.size, 1, none⟩ = some v := hgrow.cell c6 (fun e => absurd (HG.out _ e.symm) (Nat.lt_irrefl _))
          have dz : w7.frozen? ⟨w2.heap.size, 1, none⟩ = false := (hgrow.frozen_far ⟨w2.heap.size, 1, none⟩ (World.block_lt_of_cell? _ _ c6) (fun e => absurd (HG.out _ e.symm) (Nat.lt_irrefl _))).trans (((HP.out.grown HG5.out (by simp; omega)).grown (grown_one w5 (.cells #[.int .i64 x.op, .int .i64 x.a, .int .i64 x.b, .int .i64 x.c, .int .i64 x.n, .int .u64 (x.k : Int)] 189) none) (by simp)).z 1)
          clear hown hgrow hat q1 q2 q3 q4 q5 q6 q7
          refine hK.out _ _ trivial (fun hHeld => ?_)
          try simp only [Act.put]
          clear hK K
          refine wpAnyH_take (i := 6) (v := (.pointer (some ⟨w2.heap.size, 1, none⟩))) rfl (by kernel_rfl) (by kernel_rfl) (by kernel_rfl) (fun _ _ _ h => h) (Or.inl ⟨by rfl, fun w1 hSw => by clear hHeld; go_simp⟩) hHeld ?_
          try simp only [Act.put]
          refine wpAnyH_ready (rs := [7]) (by kernel_rfl) (by simp) ?_
          refine AllReadyH.cons rfl (fun K hK => ?_) AllReadyH.nil
          go_simp
          refine hK.out _ _ trivial (fun hHeld => ?_)
          refine wpAnyH_done (by kernel_rfl) ?_ _
          clear hHeld hK K
          have HR8 : Hid (Rd (w7.setCell ⟨w2.heap.size, 1, none⟩ (.slice (some ⟨g, 0, none⟩) (xs.length + 1) cap')) (w.heap.size + 1) b (si.1 : Int) (si.2 : Int)) := HQ7.out _ _ HR5.out (by omega) (fun e => by have := HG.out _ e; omega)
          clear HR5 HG5 c5 c6 d1 dz HQ7 HO HP HR HG HB HZ c1 c1d HI
          go_wp2
          go_roundw
          case rel => exact ⟨xs.length + 1, xs ++ [x], si, _, by omega, by rw [List.length_append]; rfl, hsi.1, by go_num, HR8, HQ1, HQ2, HQ3, HQ4, HQ5, HE2⟩
          case measure => simp [intOf]; omega
        · go_simp
          refine hK.out _ _ trivial (fun hHeld => ?_)
          try simp only [Act.put]
          clear hK K
          refine wpAnyH_ready (rs := [1]) (by kernel_rfl) (by simp) ?_
          refine AllReadyH.cons rfl (fun K hK => ?_) AllReadyH.nil
          go_simp
          refine hK.out _ _ trivial (fun hHeld => ?_)
          try simp only [Act.put]
          clear hK K
          refine wpAnyH_ready (rs := [5]) (by kernel_rfl) (by simp) ?_
          refine AllReadyH.cons rfl (fun K hK => ?_) AllReadyH.nil
          refine step_append_lies _ rfl (.tmp 25) (.tmp 28) 60 rfl w.heap.size 189 i0 (.agg #[.int .i64 0, .int .i64 0, .int .i64 0, .int .i64 0, .int .i64 0, .int .u64 0]) 6 48 Tryz.underlying60 hi0 hz0 hz1 hz2 rfl (by decide) v xs.length (Pg.flat xs) rfl (own_grown (own_grown HO.out HG5.out (fun k hk => by have := HG.out k hk; simp; omega)) (grown_one w5 (.cells #[.int .i64 x.op, .int .i64 x.a, .int .i64 x.b, .int .i64 x.c, .int .i64 x.n, .int .u64 (x.k : Int)] 189) none) (fun _ _ => by simp)) ⟨w5.heap.size, 0, none⟩ 1 1 [.int .i64 x.op, .int .i64 x.a, .int .i64 x.b, .int .i64 x.c, .int .i64 x.n, .int .u64 (x.k : Int)] rfl rfl
            (World.news_of_block (cs := #[.int .i64 x.op, .int .i64 x.a, .int .i64 x.b, .int .i64 x.c, .int .i64 x.n, .int .u64 (x.k : Int)]) (t := 189) (fr := (0, 0)) (heap_alloc_new w5 _)) (by simp [Value.oneCell']) (by decide) (by unfold maxLen; omega) (by omega) (by have h1 := HB.out.size; have h2 := HG5.out.size; rw [World.size_alloc]; omega) (w5.heap.size + 1) (by rw [World.size_alloc]) ?_
          intro g cap' w7 hown hgrow hat _
          obtain ⟨q1, q2, q3, q4, q5, q6, q7⟩ := appended (P := w2.heap.size) (B := w.heap.size + 1) (Z := w.heap.size) (F := (F : Int)) (by omega) (by omega) HZ.out HP.out HG.out (fun k hk => by have := HG.out k hk; omega) HB.out (by omega) (by omega) (by omega) HG5.out hown hgrow hat
          have HQ1 := hide q1
          have HQ2 := hide q2
          have HQ3 := hide q3
          have HQ4 := hide q4
          have HQ5 := hide q5
          have HQ7 := hide q7
          have d1 : w7.cell? ⟨w2.heap.size, 1, none⟩ = some v := hgrow.cell c6 (fun e => absurd (HG.out _ e.symm) (Nat.lt_irrefl _))
          have dz : w7.frozen? ⟨w2.heap.size, 1, none⟩ = false := (hgrow.frozen_far ⟨w2.heap.size, 1, none⟩ (World.block_lt_of_cell? _ _ c6) (fun e => absurd (HG.out _ e.symm) (Nat.lt_irrefl _))).trans (((HP.out.grown HG5.out (by simp; omega)).grown (grown_one w5 (.cells #[.int .i64 x.op, .int .i64 x.a, .int .i64 x.b, .int .i64 x.c, .int .i64 x.n, .int .u64 (x.k : Int)] 189) none) (by simp)).z 1)
          clear hown hgrow hat q1 q2 q3 q4 q5 q6 q7
          refine hK.out _ _ trivial (fun hHeld => ?_)
          try simp only [Act.put]
          clear hK K
          refine wpAnyH_take (i := 6) (v := (.pointer (some ⟨w2.heap.size, 1, none⟩))) rfl (by kernel_rfl) (by kernel_rfl) (by kernel_rfl) (fun _ _ _ h => h) (Or.inl ⟨by rfl, fun w1 hSw => by clear hHeld; go_simp⟩) hHeld ?_
          try simp only [Act.put]
          refine wpAnyH_ready (rs := [7]) (by kernel_rfl) (by simp) ?_
          refine AllReadyH.cons rfl (fun K hK => ?_) AllReadyH.nil
          go_simp
          refine hK.out _ _ trivial (fun hHeld => ?_)
          refine wpAnyH_done (by kernel_rfl) ?_ _
          clear hHeld hK K
          have HR8 : Hid (Rd (w7.setCell ⟨w2.heap.size, 1, none⟩ (.slice (some ⟨g, 0, none⟩) (xs.length + 1) cap')) (w.heap.size + 1) b (si.1 : Int) (si.2 : Int)) := HQ7.out _ _ HR5.out (by omega) (fun e => by have := HG.out _ e; omega)
          clear HR5 HG5 c5 c6 d1 dz HQ7 HO HP HR HG HB HZ c1 c1d HI
          go_wp2
          go_roundw
          case rel => exact ⟨xs.length + 1, xs ++ [x], si, _, by omega, by rw [List.length_append]; rfl, hsi.1, by go_num, HR8, HQ1, HQ2, HQ3, HQ4, HQ5, HE2⟩
          case measure => simp [intOf]; omega
    · have hkn' : n = xs.length := by omega
      subst hkn'
      have hki : ¬ (xs.length : Int) < (xs.length : Int) := by omega
      have HE2 : Hid (Pg.manyS b xs.length sL [] = (xs, s)) := by refine HE.out.trans ?_; rw [Nat.sub_self]; rfl
      rw [HE2.out] at HRes
      simp only [] at HRes
      have hx : ∀ x ∈ xs, x.k < 18446744073709551616 := by
        have := (manyS_le b xs.length sL [] hl2.2 (fun x hx => by cases hx)).2.1
        rw [HE2.out] at this
        exact this
      obtain ⟨ad, cap, rfl⟩ := own_slice HO.out
      have HC := hide (check_any (F : Int) xs hx (.slice ad xs.length cap))
      have hrl := HR.out.lt
      clear HE HE2 hx
      go_wp2_with fail
      refine (end_any HR.out (by omega) (by omega) hb).mono ?_
      rintro e w5 ⟨rfl, n5, rfl⟩
      by_cases hE : endE b (s.1 : Int) (s.2 : Int) = 0
      · rw [if_neg (by simp [hE])] at HRes
        rw [hE]
        have hP := HP.out
        have p0 : (wr.drewN n5).cell? ⟨w2.heap.size, 0, none⟩ = some (.int .i64 (F : Int)) := hP.c0
        have p1 : (wr.drewN n5).cell? ⟨w2.heap.size, 1, none⟩ = some (.slice ad xs.length cap) := hP.c1
        have hB5 : Below w.heap.size w (wr.drewN n5) := ⟨HB.out.os, HB.out.tape, HB.out.output, HB.out.size, HB.out.block⟩
        have HB5 := hide hB5
        have HO5 : Hid ((wr.drewN n5).ownsRow w.heap.size 189 6 (.slice ad xs.length cap) xs.length (Pg.flat xs)) := HO.out
        have HZ5 : Hid (Pb (wr.drewN n5) w.heap.size 0 (.slice none 0 0)) := HZ.out
        have HP5 : Hid (Pb (wr.drewN n5) w2.heap.size (F : Int) (.slice ad xs.length cap)) := HP.out
        clear hP hB5 HO HZ HP HB HR
        generalize wr.drewN n5 = w5 at *
        go_wp2_with fail
        refine (HC.out w5 (own_cd HO5.out)).mono ?_
        rintro e w6 ⟨rfl, hb6⟩
        have HO6 := hide (own_below HO5.out hb6)
        have HZ6 := hide (HZ5.out.grown (grown_below hb6 none) (by simp))
        have HP6 := hide (HP5.out.grown (grown_below hb6 none) (by simp))
        have HB6 : Hid (Below w.heap.size w w6) := HB5.out.trans (hb6.mono HB5.out.size)
        clear hb6 HO5 HZ5 HP5 HB5 p0 p1 HC
        generalize Pg.checkE (F : Int) xs = ce at *
        obtain ⟨E, at_⟩ := ce
        have z0 := HZ6.out.c0
        have z1 := HZ6.out.c1
        have zz := HZ6.out.z
        have p0 := HP6.out.c0
        have p1 := HP6.out.c1
        have hne : w2.heap.size ≠ w.heap.size := by omega
        by_cases hE0 : E = 0
        · subst hE0
          rw [if_neg (by simp)] at HRes
          go_wp2
          refine bodyPost_ret (by rw [results_cell_tmp rfl]; go_simp; rfl) rfl ?_
          rw [← HRes.out]
          exact ⟨_, rfl, own_grown HO6.out (grown_trans (grown_set _ _ _ _) (grown_set _ _ _ _)) (fun k hk => by have := HG.out k hk; simp; omega), (HB6.out.setCell (by simp) _).setCell (by simp) _⟩
        · have hEb : (E != 0) = true := by simp [hE0]
          rw [if_pos hE0] at HRes
          go_wp2
          refine bodyPost_ret (by rw [results_cell_tmp rfl]; go_simp; rfl) rfl ?_
          rw [← HRes.out]
          exact ⟨_, rfl, World.ownsRow_nil _ _ _ _, (HB6.out.setCell (by simp) _).setCell (by simp) _⟩
      · have hEb : (endE b (s.1 : Int) (s.2 : Int) != 0) = true := by simp [hE]
        rw [if_pos hE] at HRes
        generalize endE b (s.1 : Int) (s.2 : Int) = E at *
        have z0 : (wr.drewN n5).cell? ⟨w.heap.size, 0, none⟩ = some (.int .i64 0) := HZ.out.c0
        have z1 : (wr.drewN n5).cell? ⟨w.heap.size, 1, none⟩ = some (.slice none 0 0) := HZ.out.c1
        have zz : ∀ k, (wr.drewN n5).frozen? ⟨w.heap.size, k, none⟩ = false := HZ.out.z
        go_wp2
        refine bodyPost_ret (by rw [results_cell_tmp rfl]; go_simp; rfl) rfl ?_
        rw [← HRes.out]
        have hB5 : Below w.heap.size w (wr.drewN n5) := ⟨HB.out.os, HB.out.tape, HB.out.output, HB.out.size, HB.out.block⟩
        exact ⟨_, rfl, World.ownsRow_nil _ _ _ _, (hB5.setCell (by simp) _).setCell (by simp) _⟩
end Go.Proofs.YtkfnedhllfdghaaGreatDoor
end

section
namespace Go.Proofs.YtkfnedhllfdghaaGreatDoor
set_option maxRecDepth 20000
open Go.RowKit Go.Shelf

theorem numK_most {b : ByteArray} {p most above : Nat} (ha : above ≠ 0) (h : numK b p most above = 0) : numV b p ≤ most := by
  unfold numK at h
  split at h
  · rename_i h1; exact absurd h h1
  · split at h
    · exact absurd h ha
    · rename_i h2; unfold numV; omega
theorem bitsV_small {b : ByteArray} {p : Nat} (h : bitsK b p = 0) : bitsV b p < 18446744073709551616 := by
  have hz : p + 8 ≤ b.size := by
    unfold bitsK at h
    split at h
    · cases h
    · omega
  have hl : (rest b p).length = b.size - p := by unfold rest; rw [List.length_drop]; rfl
  exact Pk.fold8_lt (rest b p) 8 (by omega)
theorem uf_flds {b : ByteArray} : ∀ (l : List UInt8) (y : In) (s : Nat × Nat), y.Fits → (∀ c ∈ l, c.toNat = 75 → True) → ((Pg.fldsS b l (y, s)).1).Fits
  | [], _, _, h, _ => h
  | c :: t, y, s, h, hc => by
    have e : Pg.fldsS b (c :: t) (y, s) = Pg.fldsS b t ((Pg.fldS b y c.toNat s).1, (Pg.fldS b y c.toNat s).2) := rfl
    rw [e]
    refine uf_flds t _ _ ?_ (fun d hd => hc d (by simp [hd]))
    have hnum : (Pg.numS b 64 s).1 ≤ 64 := by
      unfold Pg.numS
      split
      · exact Nat.zero_le _
      · split
        · rename_i h0 hk
          exact numK_most (by decide) hk
        · exact Nat.zero_le _
    have hbit : (Pg.bitsS b s).1 < 18446744073709551616 := by
      unfold Pg.bitsS
      split
      · exact (by decide : (0 : Nat) < 18446744073709551616)
      · split
        · rename_i h2
          exact bitsV_small h2
        · exact (by decide : (0 : Nat) < 18446744073709551616)
    unfold Pg.fldS
    split
    · exact ⟨h.op, h.a, h.b, h.c, h.n, hbit⟩
    · unfold Pg.setF
      split
      · exact ⟨h.op, ⟨by show (-9223372036854775808 : Int) ≤ ((Pg.numS b 64 s).1 : Int); omega, by show (((Pg.numS b 64 s).1 : Nat) : Int) ≤ 9223372036854775807; omega⟩, h.b, h.c, h.n, h.k⟩
      split
      · exact ⟨h.op, h.a, ⟨by show (-9223372036854775808 : Int) ≤ ((Pg.numS b 64 s).1 : Int); omega, by show (((Pg.numS b 64 s).1 : Nat) : Int) ≤ 9223372036854775807; omega⟩, h.c, h.n, h.k⟩
      split
      · exact ⟨h.op, h.a, h.b, ⟨by show (-9223372036854775808 : Int) ≤ ((Pg.numS b 64 s).1 : Int); omega, by show (((Pg.numS b 64 s).1 : Nat) : Int) ≤ 9223372036854775807; omega⟩, h.n, h.k⟩
      split
      · exact ⟨h.op, h.a, h.b, h.c, ⟨by show (-9223372036854775808 : Int) ≤ ((Pg.numS b 64 s).1 : Int); omega, by show (((Pg.numS b 64 s).1 : Nat) : Int) ≤ 9223372036854775807; omega⟩, h.k⟩
      · exact ⟨h.op, h.a, h.b, h.c, h.n, by show (Pg.numS b 64 s).1 < 18446744073709551616; omega⟩
theorem uf_ins (b : ByteArray) (s : Nat × Nat) : (Pg.insS b s).1.Fits := by
  unfold Pg.insS
  have hnum : (Pg.numS b 64 s).1 ≤ 64 := by
    unfold Pg.numS
    split
    · exact Nat.zero_le _
    · split
      · rename_i h0 hk
        exact numK_most (by decide) hk
      · exact Nat.zero_le _
  exact uf_flds _ _ _ ⟨⟨by show (-9223372036854775808 : Int) ≤ ((Pg.numS b 64 s).1 : Int); omega, by show (((Pg.numS b 64 s).1 : Nat) : Int) ≤ 9223372036854775807; omega⟩, ⟨by show (-9223372036854775808 : Int) ≤ 0; decide, by show (0 : Int) ≤ 9223372036854775807; decide⟩, ⟨by show (-9223372036854775808 : Int) ≤ 0; decide, by show (0 : Int) ≤ 9223372036854775807; decide⟩, ⟨by show (-9223372036854775808 : Int) ≤ 0; decide, by show (0 : Int) ≤ 9223372036854775807; decide⟩, ⟨by show (-9223372036854775808 : Int) ≤ 0; decide, by show (0 : Int) ≤ 9223372036854775807; decide⟩, by show (0 : Nat) < 18446744073709551616; decide⟩ (fun _ _ _ => trivial)
theorem uf_many (b : ByteArray) : ∀ (n : Nat) (s : Nat × Nat) (acc : List In), (∀ x ∈ acc, x.Fits) → ∀ x ∈ (Pg.manyS b n s acc).1, x.Fits
  | 0, _, _, h => h
  | n + 1, s, acc, h => uf_many b n _ _ (fun x hx => by
      rcases List.mem_append.1 hx with hx | hx
      · exact h x hx
      · rw [List.mem_singleton.1 hx]; exact uf_ins b s)
theorem uf_unpack (b : ByteArray) : ∀ x ∈ (Pg.unpackS b).1.2, x.Fits := by
  unfold Pg.unpackS
  split
  · simp
  split
  · simp
  split
  · simp
  · exact uf_many b _ _ [] (by simp)
end Go.Proofs.YtkfnedhllfdghaaGreatDoor
end
