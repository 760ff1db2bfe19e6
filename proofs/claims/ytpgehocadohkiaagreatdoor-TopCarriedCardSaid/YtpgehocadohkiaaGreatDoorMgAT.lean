import Derived.Test.YtpgehocadohkiaaGreatDoorMgAS
import Derived.Deep.OwnRows
import Derived.Lib.IndexLaws

section
namespace Go.Proofs.YtpgehocadohkiaaGreatDoor
open Go.RowKit Go.Shelf

namespace Pg
/-- what stands between blanks, at most so many cuts -/
def splitW : Nat → ByteArray → List ByteArray
  | 0, s => [s]
  | n + 1, s => if Lib.indexByte s.data.toList 32 < 0 then [s] else s.extract 0 (Lib.indexByte s.data.toList 32).toNat :: splitW n (s.extract ((Lib.indexByte s.data.toList 32).toNat + 1) s.size)
def cellsW (ws : List ByteArray) (N : Nat) : Array Value := (ws.map Value.string ++ List.replicate (N - ws.length) (Value.string ⟨#[]⟩)).toArray
end Pg
theorem splitW_pos : ∀ (n : Nat) (s : ByteArray), 1 ≤ (Pg.splitW n s).length ∧ (Pg.splitW n s).length ≤ n + 1
  | 0, s => ⟨Nat.le_refl _, Nat.le_refl _⟩
  | n + 1, s => by
    unfold Pg.splitW
    split
    · exact ⟨Nat.le_refl _, by simp⟩
    · have := splitW_pos n (s.extract ((Lib.indexByte s.data.toList 32).toNat + 1) s.size)
      simp only [List.length_cons]
      omega
theorem idx_bound (s : ByteArray) (c : UInt8) (h : 0 ≤ Lib.indexByte s.data.toList c) : (Lib.indexByte s.data.toList c).toNat < s.size := by
  have h1 := (Lib.indexByte_some (l := s.data.toList) (c := c) (o := (Lib.indexByte s.data.toList c).toNat) (by omega)).1
  have := (List.getElem?_eq_some_iff.1 h1).1
  rwa [Array.length_toList] at this
theorem splitW_more : ∀ (n m : Nat) (s : ByteArray), s.size ≤ n → n ≤ m → Pg.splitW n s = Pg.splitW m s
  | 0, 0, s, _, _ => rfl
  | 0, m + 1, s, h, _ => by
    have hi : Lib.indexByte s.data.toList 32 < 0 := by
      rcases Int.lt_or_le (Lib.indexByte s.data.toList 32) 0 with h1 | h1
      · exact h1
      · have := idx_bound s 32 h1; omega
    show [s] = if _ then _ else _
    rw [if_pos hi]
  | n + 1, 0, s, _, h => by omega
  | n + 1, m + 1, s, h, hm => by
    unfold Pg.splitW
    split
    · rfl
    · rename_i h1
      have := idx_bound s 32 (by omega)
      rw [splitW_more n m _ (by rw [ByteArray.size_extract]; omega) (by omega)]
theorem cellsW_size (ws : List ByteArray) (N : Nat) (h : ws.length ≤ N) : (Pg.cellsW ws N).size = N := by
  unfold Pg.cellsW
  simp
  omega
theorem cellsW_set (ws : List ByteArray) (N : Nat) (h : ws.length < N) (x : ByteArray) : (Pg.cellsW ws N).setIfInBounds ws.length (.string x) = Pg.cellsW (ws ++ [x]) N := by
  unfold Pg.cellsW
  rw [List.setIfInBounds_toArray]
  congr 1
  rw [List.set_append_right _ _ (by simp)]
  obtain ⟨k, hk⟩ : ∃ k, N - ws.length = k + 1 := ⟨N - ws.length - 1, by omega⟩
  rw [hk, List.length_map, Nat.sub_self, List.replicate_succ, List.set_cons_zero, List.length_append, List.length_singleton, show N - (ws.length + 1) = k by omega, List.map_append, List.append_assoc]
  rfl
theorem cellsW_made (N : Nat) : madeCells #[Value.string ByteArray.empty] N = Pg.cellsW [] N := by
  apply Array.ext
  · rw [size_madeCells, cellsW_size [] N (Nat.zero_le _)]
  · intro i h1 h2
    simp [madeCells, Pg.cellsW, Nat.mod_one]
    rfl
theorem cellsW_at (ws : List ByteArray) (N j : Nat) (h : ws.length ≤ N) (hj : j < N) : ∃ t, (Pg.cellsW ws N)[j]? = some (.string t) := by
  unfold Pg.cellsW
  rw [List.getElem?_toArray]
  by_cases h1 : j < ws.length
  · rw [List.getElem?_append_left (by simpa using h1), List.getElem?_map, List.getElem?_eq_getElem h1]; exact ⟨_, rfl⟩
  · rw [List.getElem?_append_right (by simpa using h1), List.getElem?_replicate, if_pos (by simp; omega)]; exact ⟨_, rfl⟩
theorem cellsW_word (ws : List ByteArray) (N j : Nat) (hj : j < ws.length) : (Pg.cellsW ws N)[j]? = some (.string ws[j]!) := by
  unfold Pg.cellsW
  rw [List.getElem?_toArray, List.getElem?_append_left (by simpa using hj), List.getElem?_map, List.getElem?_eq_getElem hj, getElem!_pos ws j hj]
  rfl
/-- a row of words -/
def Wb (w : World) (G : Nat) (ws : List ByteArray) (N : Nat) : Prop := w.heap[G]? = some (.cells (Pg.cellsW ws N) 9 (0, 0))
theorem Wb.cell {w : World} {G N j : Nat} {ws : List ByteArray} (h : Wb w G ws N) (hl : ws.length ≤ N) (hj : j < N) : ∃ t, w.cell? ⟨G, j, none⟩ = some (.string t) := by
  obtain ⟨t, ht⟩ := cellsW_at ws N j hl hj
  unfold Wb at h
  exact ⟨t, by simp [World.cell?, h, ht]⟩
theorem Wb.word {w : World} {G N j : Nat} {ws : List ByteArray} (h : Wb w G ws N) (hj : j < ws.length) : w.cell? ⟨G, j, none⟩ = some (.string ws[j]!) := by
  have ht := cellsW_word ws N j hj
  unfold Wb at h
  simp only [World.cell?, h]
  exact ht
theorem Wb.z {w : World} {G N : Nat} {ws : List ByteArray} (h : Wb w G ws N) (k : Nat) : w.frozen? ⟨G, k, none⟩ = false := by unfold Wb at h; simp [World.frozen?, h]
theorem Wb.set {w : World} {G N : Nat} {ws : List ByteArray} (h : Wb w G ws N) (hl : ws.length < N) (x : ByteArray) : Wb (w.setCell ⟨G, ws.length, none⟩ (.string x)) G (ws ++ [x]) N := by
  have := cellsW_set ws N hl x
  unfold Wb World.setCell at *
  simp [Array.getElem?_modify, h, this]
theorem Tryz.infoS : (Tryz.prog.info? 9).map (fun i => (i.zero, i.size, i.bytes)) = some (some (.string ByteArray.empty), 1, 16) := by kernel_rfl
set_option maxRecDepth 10000 in
set_option maxHeartbeats 1000000 in
theorem genSplit_any (s : ByteArray) (hs : s.size ≤ 4611686018427387904) (w : World) :
    Calls Tryz.prog 105 #[.string s, .string ⟨#[32]⟩, .int .i64 0, .int .i64 5] w fun e w' => ∃ N, e = .returned (.slice (some ⟨w.heap.size, 0, none⟩) (Pg.splitW 4 s).length N) ∧ Wb w' w.heap.size (Pg.splitW 4 s) N ∧ Below w.heap.size w w' := by
  have hmk := fun n (h : n ≤ 5) w => run_make_row' (P := Tryz.prog) 30 9 (.string ByteArray.empty) 16 Tryz.underlying30 Tryz.infoS rfl .i64 .i64 n (by omega) (by omega) w
  obtain ⟨N, hN⟩ : ∃ N, N = min 5 (s.size + 1) := ⟨_, rfl⟩
  have HSp : Hid (Pg.splitW 4 s = Pg.splitW (N - 1) s) := by
    show _ = _
    rcases Nat.lt_or_ge s.size 4 with h | h
    · rw [show N - 1 = s.size by omega, splitW_more s.size 4 s (Nat.le_refl _) (by omega)]
    · rw [show N - 1 = 4 by omega]
  have hmin : min (5 : Int) ((s.size : Int) + 1) = (N : Int) := by omega
  have hN1 : 1 ≤ N := by omega
  have hN5 : N ≤ 5 := by omega
  have hm := hmk N hN5
  rw [cellsW_made N] at hm
  have HNs : Hid (N = min 5 (s.size + 1)) := hN
  clear hmk hN
  go_enter Tryz.func105, Tryz.ntmps105
  go_wp2_with fail
  have HW0 : Hid (Wb (w.alloc (.cells (Pg.cellsW [] N) 9)) w.heap.size [] N) := heap_alloc_new w _
  have HB0 := hide (below_one w (.cells (Pg.cellsW [] N) 9))
  generalize w.alloc (.cells (Pg.cellsW [] N) 9) = W0 at *
  go_loopw [0, 10] (fun s0 s10 wr => ∃ (ws : List ByteArray) (t : ByteArray), ws.length ≤ N - 1 ∧ s0 = .string t ∧ s10 = .int .i64 (ws.length : Int) ∧ t.size ≤ s.size ∧ Hid (Wb wr w.heap.size ws N) ∧ Hid (Below w.heap.size w wr) ∧ Hid (Pg.splitW (N - 1) s = ws ++ Pg.splitW (N - 1 - ws.length) t)) (fun _ s10 _ => N - (intOf s10).toNat)
  case atStart => exact ⟨[], s, Nat.zero_le _, rfl, rfl, Nat.le_refl _, HW0, HB0, rfl⟩
  case round =>
    obtain ⟨ws, t, hws, rfl, rfl, hts, HW, HB, HE⟩ := hrel
    clear HW0 HB0 hm hmin
    have hz := HW.out.z
    obtain ⟨t0, hcell⟩ := HW.out.cell (j := ws.length) (by omega) (by omega)
    have hGl : w.heap.size < wr.heap.size := lt_of_block HW.out
    have HIx := hide (Tryz.strings_Index_one t 32 wr)
    by_cases hlt : ws.length < N - 1
    · have hli : (ws.length : Int) < (N : Int) - 1 := by omega
      obtain ⟨k, hk⟩ : ∃ k, N - 1 - ws.length = k + 1 := ⟨N - 1 - ws.length - 1, by omega⟩
      have hE := HE.out
      rw [hk, Pg.splitW] at hE
      by_cases hneg : Lib.indexByte t.data.toList 32 < 0
      · rw [if_pos hneg] at hE
        have HE2 := hide hE
        generalize Lib.indexByte t.data.toList 32 = m at *
        clear hE hk HE
        go_wp2_with (go_at_call 163; refine HIx.out.mono ?_; rintro e w' ⟨rfl, rfl⟩)
        go_ret
        exact ⟨N, by rw [HSp.out, HE2.out, List.length_append]; rfl, by rw [HSp.out, HE2.out]; exact HW.out.set (by omega) t, HB.out.setCell (by simp) _⟩
      · rw [if_neg hneg] at hE
        have hib := idx_bound t 32 (by omega)
        obtain ⟨m, hm⟩ : ∃ m : Nat, Lib.indexByte t.data.toList 32 = (m : Int) := ⟨(Lib.indexByte t.data.toList 32).toNat, by omega⟩
        rw [hm] at HIx hE hib hneg
        simp only [Int.toNat_natCast] at hE hib
        have HE2 := hide hE
        clear hE HE hm hneg
        go_wp2_with (go_at_call 163; refine HIx.out.mono ?_; rintro e w' ⟨rfl, rfl⟩)
        go_roundw
        case rel =>
          refine ⟨ws ++ [t.extract 0 m], t.extract (m + 1) t.size, by rw [List.length_append]; simp only [List.length_singleton]; omega, rfl, by rw [List.length_append]; go_num, by rw [ByteArray.size_extract]; omega, HW.out.set (by omega) _, HB.out.setCell (by simp) _, ?_⟩
          show _ = _
          rw [HE2.out, List.append_assoc, List.length_append, List.length_singleton, show N - 1 - (ws.length + 1) = k by omega]
          rfl
        case measure => simp [intOf]; omega
    · have hli : ¬ (ws.length : Int) < (N : Int) - 1 := by omega
      have hE := HE.out
      rw [show N - 1 - ws.length = 0 by omega, Pg.splitW] at hE
      have HE2 := hide hE
      clear hE HE
      go_wp2
      go_ret
      exact ⟨N, by rw [HSp.out, HE2.out, List.length_append]; rfl, by rw [HSp.out, HE2.out]; exact HW.out.set (by omega) t, HB.out.setCell (by simp) _⟩
set_option maxHeartbeats 1000000 in
theorem splitN_any (s : ByteArray) (hs : s.size ≤ 4611686018427387904) (w : World) :
    Calls Tryz.prog 77 #[.string s, .string ⟨#[32]⟩, .int .i64 5] w fun e w' => ∃ N, e = .returned (.slice (some ⟨w.heap.size, 0, none⟩) (Pg.splitW 4 s).length N) ∧ Wb w' w.heap.size (Pg.splitW 4 s) N ∧ Below w.heap.size w w' := by
  have HG := hide (genSplit_any s hs w)
  generalize Pg.splitW 4 s = ws at *
  go_enter Tryz.func77, Tryz.ntmps77
  go_wp2_with fail
  refine HG.out.mono ?_
  rintro e w1 ⟨N, rfl, hW, hb⟩
  have HW := hide hW
  have HB := hide hb
  clear hW hb
  go_wp2
  go_ret
  exact ⟨N, rfl, HW.out, HB.out⟩
end Go.Proofs.YtpgehocadohkiaaGreatDoor
end

section
namespace Go.Proofs.YtpgehocadohkiaaGreatDoor
open Go.RowKit Go.Shelf

namespace Pg
def goP (ws : List ByteArray) : List UInt8 → Nat → In → In × Bool
  | [], _, x => (x, true)
  | l :: r, i, x => if (fieldP l.toNat ws[1 + i]!).2 = false then (default, false) else goP ws r (i + 1) (setF x l.toNat (fieldP l.toNat ws[1 + i]!).1)
def insP (line : ByteArray) : In × Bool := if (named (splitW 4 line)[0]!).2 = false ∨ (splitW 4 line).length ≠ 1 + (named (splitW 4 line)[0]!).1.flds.size then (default, false) else goP (splitW 4 line) (named (splitW 4 line)[0]!).1.flds.data.toList 0 ⟨(named (splitW 4 line)[0]!).1.op, 0, 0, 0, 0, 0⟩
theorem named_ok (s : ByteArray) : (named s).1.flds.size ≤ 3 ∧ (∀ c ∈ (named s).1.flds.data.toList, c.toNat < 128) ∧ (named s).1.word.size ≤ 5 := by
  have h := find_ok (fun x => x.word.toList == s.toList)
  unfold okF at h
  simp only [Bool.and_eq_true, decide_eq_true_eq, List.all_eq_true] at h
  exact ⟨h.1.1, h.1.2, h.2⟩
theorem splitW_size : ∀ (n : Nat) (s : ByteArray), ∀ x ∈ splitW n s, x.size ≤ s.size
  | 0, s, x, h => by rw [List.mem_singleton.1 h]; exact Nat.le_refl _
  | n + 1, s, x, h => by
    unfold splitW at h
    split at h
    · rw [List.mem_singleton.1 h]; exact Nat.le_refl _
    · rcases List.mem_cons.1 h with rfl | h
      · rw [ByteArray.size_extract]; omega
      · have := splitW_size n _ x h
        rw [ByteArray.size_extract] at this
        omega
end Pg
theorem fieldP_lt (l : Nat) (s : ByteArray) : l = 75 ∨ (Pg.fieldP l s).1 < 4294967296 := by
  by_cases h : l = 75
  · exact .inl h
  · refine .inr ?_
    unfold Pg.fieldP
    rw [if_neg h]
    split
    · have := numP_lt s; omega
    · unfold Pg.regP
      split
      · have := numP_lt (Pg.cutR s); show (Pg.numP (Pg.cutR s)).1 < _; omega
      · exact (by decide : (0 : Nat) < 4294967296)
theorem goP_drop (ws : List ByteArray) (sf : ByteArray) (k : Nat) (h : k < sf.size) (x : In) : Pg.goP ws (sf.data.toList.drop k) k x = if (Pg.fieldP (sf[k]'h).toNat ws[1 + k]!).2 = false then (default, false) else Pg.goP ws (sf.data.toList.drop (k + 1)) (k + 1) (Pg.setF x (sf[k]'h).toNat (Pg.fieldP (sf[k]'h).toNat ws[1 + k]!).1) := by
  rw [at_toList sf k h]
  rfl
theorem Wb.below {w w' : World} {G N n : Nat} {ws : List ByteArray} (h : Wb w G ws N) (hb : Below n w w') (hn : G < n) : Wb w' G ws N := (hb.block G hn).trans h
theorem Wb.grown {w w' : World} {G N : Nat} {ws : List ByteArray} (h : Wb w G ws N) {r : Option Nat} (g : w.grownBy w' r) (hn : some G ≠ r) : Wb w' G ws N := (g.block G (lt_of_block h) hn).trans h
set_option maxRecDepth 10000 in
set_option maxHeartbeats 1000000 in
theorem parseIns_any (line : ByteArray) (hs : line.size ≤ 4611686018427387904) (w : World) (hT : Libs w) :
    Calls Tryz.prog 48 #[.string line] w fun e w' => e = .returned (.tuple #[.agg #[.int .i64 (Pg.insP line).1.op, .int .i64 (Pg.insP line).1.a, .int .i64 (Pg.insP line).1.b, .int .i64 (Pg.insP line).1.c, .int .i64 (Pg.insP line).1.n, .int .u64 ((Pg.insP line).1.k : Int)], .bool (Pg.insP line).2]) ∧ Below w.heap.size w w' := by
  obtain ⟨R, hRes⟩ : ∃ R, Pg.insP line = R := ⟨_, rfl⟩
  rw [hRes]
  unfold Pg.insP at hRes
  have HSp := hide (splitN_any line hs)
  have hl := splitW_pos 4 line
  have hsz := Pg.splitW_size 4 line
  generalize Pg.splitW 4 line = ws at *
  obtain ⟨z0, hz0⟩ : ∃ z, ws[0]! = z := ⟨_, rfl⟩
  rw [hz0] at hRes
  have HZ0 := hide hz0
  clear hz0
  have HNm := hide (shapeNamed_any z0)
  have HO := hide (Pg.named_ok z0)
  generalize Pg.named z0 = sh at *
  obtain ⟨⟨so, sw, sf⟩, sb⟩ := sh
  simp only [] at hRes
  have HRes := hide hRes
  have HSz := hide hsz
  have HT := hide hT
  clear hRes hsz hT
  go_enter Tryz.func48, Tryz.ntmps48
  go_wp2_with fail
  refine (HSp.out _).mono ?_
  rintro e w1 ⟨N, rfl, hW1, hb1⟩
  rw [World.size_alloc] at hW1 hb1
  simp only [World.size_alloc]
  have hI1 : Ib w1 w.heap.size ⟨0, 0, 0, 0, 0, 0⟩ := (hb1.block w.heap.size (by omega)).trans (heap_alloc_new w _)
  have HI1 := hide hI1
  have HW1 := hide hW1
  have HB1 : Hid (Below w.heap.size w w1) := (below_one w _).trans (hb1.mono (by omega))
  have hw0 : w1.cell? ⟨w.heap.size + 1, 0, none⟩ = some (.string z0) := by have := hW1.word (j := 0) (by omega); rw [HZ0.out] at this; exact this
  have hGl : w.heap.size + 1 < w1.heap.size := lt_of_block hW1
  have hli : (0 : Int) < (ws.length : Int) := by omega
  clear hI1 hW1 hb1 HSp
  go_wp2_with fail
  refine (HNm.out w1).mono ?_
  rintro e w2 ⟨rfl, hb2⟩
  have HI2 := hide (HI1.out.grown (grown_below hb2 none) (by simp))
  have HW2 := hide (HW1.out.below hb2 hGl)
  have HB2 : Hid (Below w.heap.size w w2) := HB1.out.trans (hb2.mono HB1.out.size)
  have hz2 : w1.heap.size ≤ w2.heap.size := hb2.size
  clear HI1 HW1 HB1 hb2 HNm hw0
  have HS3 : Hid ((w2.alloc (.cells #[.int .i64 so, .string sw, .string sf] 110)).heap[w2.heap.size]? = some (.cells #[.int .i64 so, .string sw, .string sf] 110 (0, 0))) := heap_alloc_new w2 _
  have HI3 := hide (HI2.out.grown (grown_one w2 (.cells #[.int .i64 so, .string sw, .string sf] 110) none) (by simp))
  have HW3 := hide (HW2.out.grown (grown_one w2 (.cells #[.int .i64 so, .string sw, .string sf] 110) none) (by simp))
  have HB3 := hide (HB2.out.alloc HB2.out.size (.cells #[.int .i64 so, .string sw, .string sf] 110))
  have HZ3 : Hid ((w2.alloc (.cells #[.int .i64 so, .string sw, .string sf] 110)).heap.size = w2.heap.size + 1) := World.size_alloc _ _
  clear HI2 HW2 HB2
  by_cases hbad : sb = false ∨ ws.length ≠ 1 + sf.size
  · rw [if_pos hbad] at HRes
    obtain ⟨⟨x0, x1, x2, x3, x4, x5⟩, xz⟩ := six_of HI3.out
    obtain ⟨⟨y0, y1, y2⟩, yz⟩ := three_of HS3.out
    have hne : w2.heap.size ≠ w.heap.size := by omega
    cases sb with
    | false =>
      go_wp2
      refine bodyPost_ret (by rw [results_cell_tmp rfl]; go_simp; rfl) rfl ?_
      rw [← HRes.out]
      exact ⟨rfl, (((((HB3.out.setCell (by simp) _).setCell (by simp) _).setCell (by simp) _).setCell (by simp) _).setCell (by simp) _).setCell (by simp) _⟩
    | true =>
      have hnl : ((ws.length : Int) != 1 + (sf.size : Int)) = true := by
        rcases hbad with h | h
        · cases h
        · rw [bne_iff_ne]; omega
      have hsfl : sf.size ≤ 3 := HO.out.1
      go_wp2
      refine bodyPost_ret (by rw [results_cell_tmp rfl]; go_simp; rfl) rfl ?_
      rw [← HRes.out]
      exact ⟨rfl, (((((HB3.out.setCell (by simp) _).setCell (by simp) _).setCell (by simp) _).setCell (by simp) _).setCell (by simp) _).setCell (by simp) _⟩
  · rw [if_neg hbad] at HRes
    have hsb : sb = true := by cases sb <;> simp_all
    subst hsb
    have hwl : ws.length = 1 + sf.size := by
      rcases Nat.lt_trichotomy ws.length (1 + sf.size) with h | h | h
      · exact absurd (.inr (by omega)) hbad
      · exact h
      · exact absurd (.inr (by omega)) hbad
    have hnl : ((ws.length : Int) != 1 + (sf.size : Int)) = false := by rw [bne_eq_false_iff_eq]; omega
    have hsfl : sf.size ≤ 3 := HO.out.1
    have HWL := hide hwl
    obtain ⟨⟨y0, y1, y2⟩, yz⟩ := three_of HS3.out
    clear hbad hwl
    have HI4 : Hid (Ib (((w2.alloc (.cells #[.int .i64 so, .string sw, .string sf] 110)).alloc (.cells #[.int .i64 so, .int .i64 0, .int .i64 0, .int .i64 0, .int .i64 0, .int .u64 0] 71)).iter sf 0) (w2.heap.size + 1) ⟨so, 0, 0, 0, 0, 0⟩) := by
      have h1 : Ib ((w2.alloc (.cells #[.int .i64 so, .string sw, .string sf] 110)).alloc (.cells #[.int .i64 so, .int .i64 0, .int .i64 0, .int .i64 0, .int .i64 0, .int .u64 0] 71)) (w2.heap.size + 1) ⟨so, 0, 0, 0, 0, 0⟩ := by
        have := heap_alloc_new (w2.alloc (.cells #[.int .i64 so, .string sw, .string sf] 110)) (.cells #[.int .i64 so, .int .i64 0, .int .i64 0, .int .i64 0, .int .i64 0, .int .u64 0] 71)
        rw [World.size_alloc] at this
        exact this
      exact h1.grown (grown_one _ (.stringIter sf 0) none) (by simp)
    have HZ4 : Hid (Ib (((w2.alloc (.cells #[.int .i64 so, .string sw, .string sf] 110)).alloc (.cells #[.int .i64 so, .int .i64 0, .int .i64 0, .int .i64 0, .int .i64 0, .int .u64 0] 71)).iter sf 0) w.heap.size ⟨0, 0, 0, 0, 0, 0⟩) := (HI3.out.grown (grown_one _ (.cells #[.int .i64 so, .int .i64 0, .int .i64 0, .int .i64 0, .int .i64 0, .int .u64 0] 71) none) (by simp)).grown (grown_one _ (.stringIter sf 0) none) (by simp)
    have HW4 : Hid (Wb (((w2.alloc (.cells #[.int .i64 so, .string sw, .string sf] 110)).alloc (.cells #[.int .i64 so, .int .i64 0, .int .i64 0, .int .i64 0, .int .i64 0, .int .u64 0] 71)).iter sf 0) (w.heap.size + 1) ws N) := (HW3.out.grown (grown_one _ (.cells #[.int .i64 so, .int .i64 0, .int .i64 0, .int .i64 0, .int .i64 0, .int .u64 0] 71) none) (by simp)).grown (grown_one _ (.stringIter sf 0) none) (by simp)
    have HB4 : Hid (Below w.heap.size w (((w2.alloc (.cells #[.int .i64 so, .string sw, .string sf] 110)).alloc (.cells #[.int .i64 so, .int .i64 0, .int .i64 0, .int .i64 0, .int .i64 0, .int .u64 0] 71)).iter sf 0)) := (HB3.out.alloc HB3.out.size (.cells #[.int .i64 so, .int .i64 0, .int .i64 0, .int .i64 0, .int .i64 0, .int .u64 0] 71)).alloc (by have := HB3.out.size; simp; simp at this; omega) (.stringIter sf 0)
    have HT4 : Hid ((((w2.alloc (.cells #[.int .i64 so, .string sw, .string sf] 110)).alloc (.cells #[.int .i64 so, .int .i64 0, .int .i64 0, .int .i64 0, .int .i64 0, .int .u64 0] 71)).iter sf 0).heap[w2.heap.size + 2]? = some (.stringIter sf 0)) := by
      have := World.iter_heap ((w2.alloc (.cells #[.int .i64 so, .string sw, .string sf] 110)).alloc (.cells #[.int .i64 so, .int .i64 0, .int .i64 0, .int .i64 0, .int .i64 0, .int .u64 0] 71)) sf 0
      rw [World.size_alloc, World.size_alloc] at this
      exact this
    clear HI3 HW3 HB3
    go_wp2_with fail
    generalize (((w2.alloc (.cells #[.int .i64 so, .string sw, .string sf] 110)).alloc (.cells #[.int .i64 so, .int .i64 0, .int .i64 0, .int .i64 0, .int .i64 0, .int .u64 0] 71)).iter sf 0) = W0 at *
    go_loopw [] (fun wr => ∃ (k : Nat) (x : In), k ≤ sf.size ∧ Hid (Ib wr (w2.heap.size + 1) x) ∧ Hid (Ib wr w.heap.size ⟨0, 0, 0, 0, 0, 0⟩) ∧ Hid (Wb wr (w.heap.size + 1) ws N) ∧ Hid (wr.heap[w2.heap.size + 2]? = some (.stringIter sf k)) ∧ Hid (Below w.heap.size w wr) ∧ Hid (R = Pg.goP ws (sf.data.toList.drop k) k x)) (fun wr => sf.size - wr.iterPos (w2.heap.size + 2))
    case atStart => exact ⟨0, _, Nat.zero_le _, HI4, HZ4, HW4, HT4, HB4, HRes.out.symm⟩
    case round =>
      obtain ⟨k, x, hk, HI, HZ, HW, HTi, HB, HE⟩ := hrel
      clear HI4 HZ4 HW4 HT4 HB4 HRes
      by_cases hlt : k < sf.size
      · have hla : (sf[k]'hlt).toNat < 128 := HO.out.2.1 _ (at_mem sf k hlt)
        have hnx : ∀ ty, (Instr.next (.pointer (some ⟨w2.heap.size + 2, 0, none⟩)) true ty).run Tryz.prog wr = _ := fun ty => Lib.run_next_ascii_at wr (w2.heap.size + 2) sf k ty HTi.out hlt hla
        have HE2 := hide (HE.out.trans (goP_drop ws sf k hlt x))
        have hwk : 1 + k < ws.length := by have := HWL.out; omega
        have hus : (ws[1 + k]!).size ≤ 9223372036854775807 := by
          have h1 := HSz.out ws[1 + k]! (by rw [getElem!_pos ws (1 + k) hwk]; exact List.getElem_mem hwk)
          omega
        have hwd : ∀ w', Wb w' (w.heap.size + 1) ws N → w'.cell? ⟨w.heap.size + 1, 1 + k, none⟩ = some (.string ws[1 + k]!) := fun w' h => h.word hwk
        have hfl := fieldP_lt (sf[k]'hlt).toNat ws[1 + k]!
        generalize ws[1 + k]! = u at *
        generalize (sf[k]'hlt).toNat = l at *
        have HM : Hid (wr.iterPos (w2.heap.size + 2) = k) := iterPos_of HTi.out
        have hgi := grown_iterAt wr (w2.heap.size + 2) sf (k + 1)
        have HI2 := hide (HI.out.grown hgi (by simp))
        have HZ2 := hide (HZ.out.grown hgi (by simp; omega))
        have HW2 := hide (HW.out.grown hgi (by simp; omega))
        have HT2 := hide (Lib.iterAt_heap wr (w2.heap.size + 2) sf k (k + 1) HTi.out)
        have HB2 : Hid (Below w.heap.size w (wr.iterAt (w2.heap.size + 2) sf (k + 1))) := HB.out.grown hgi HB.out.size (fun j hj => by injection hj with hj; omega)
        clear HI HZ HW HTi HB HE hgi
        generalize wr.iterAt (w2.heap.size + 2) sf (k + 1) = wn at *
        have hcu := hwd wn HW2.out
        have HPF := hide (parseField_any l u hus wn (HT.out.below HB2.out (Nat.le_refl _)))
        generalize Pg.fieldP l u = r at *
        obtain ⟨rv, rb⟩ := r
        have hk3 : k < 3 := by omega
        have hki : (1 : Int) + (k : Int) < (ws.length : Int) := by omega
        clear hwd
        cases rb with
        | false =>
          have hER : R = (default, false) := HE2.out
          have HER := hide hER
          clear hER HE2
          go_wp2_with fail
          refine HPF.out.mono ?_
          rintro e w4 ⟨rfl, hb4⟩
          have HZ5 := hide (HZ2.out.grown (grown_below hb4 none) (by simp))
          have HB5 : Hid (Below w.heap.size w w4) := HB2.out.trans (hb4.mono HB2.out.size)
          obtain ⟨⟨z0, z1, z2, z3, z4, z5⟩, zz⟩ := six_of HZ5.out
          clear hb4
          go_wp2
          refine bodyPost_ret (by rw [results_cell_tmp rfl]; go_simp; rfl) rfl ?_
          rw [HER.out]
          exact ⟨rfl, (((((HB5.out.setCell (by simp) _).setCell (by simp) _).setCell (by simp) _).setCell (by simp) _).setCell (by simp) _).setCell (by simp) _⟩
        | true =>
          have HER : Hid (R = Pg.goP ws (sf.data.toList.drop (k + 1)) (k + 1) (Pg.setF x l rv)) := HE2.out
          clear HE2
          go_wp2_with fail
          refine HPF.out.mono ?_
          rintro e w4 ⟨rfl, hb4⟩
          have HI5 := hide (HI2.out.grown (grown_below hb4 none) (by simp))
          have HZ5 := hide (HZ2.out.grown (grown_below hb4 none) (by simp))
          have HW5 := hide (HW2.out.grown (grown_below hb4 none) (by simp))
          have HT5 : Hid (w4.heap[w2.heap.size + 2]? = some (.stringIter sf (k + 1))) := (hb4.block _ (lt_of_block HT2.out)).trans HT2.out
          have HB5 : Hid (Below w.heap.size w w4) := HB2.out.trans (hb4.mono HB2.out.size)
          clear hb4 HI2 HZ2 HW2 HT2 HB2 HPF hcu
          go_wp2_with fail
          refine (set_any x l rv hfl (w2.heap.size + 1) w4 HI5.out).mono ?_
          rintro e w5 ⟨rfl, hI6, hg6⟩
          have HI6 := hide hI6
          have HZ6 := hide (HZ5.out.grown hg6 (by simp; omega))
          have HW6 := hide (HW5.out.grown hg6 (by simp; omega))
          have HT6 : Hid (w5.heap[w2.heap.size + 2]? = some (.stringIter sf (k + 1))) := (hg6.block _ (lt_of_block HT5.out) (by simp)).trans HT5.out
          have HB6 : Hid (Below w.heap.size w w5) := HB5.out.grown hg6 HB5.out.size (fun j hj => by injection hj with hj; omega)
          clear hI6 hg6 HI5 HZ5 HW5 HT5 HB5
          go_wp2
          go_roundw
          case rel => exact ⟨k + 1, _, by omega, HI6, HZ6, HW6, HT6, HB6, HER⟩
          case measure => rw [HM.out, iterPos_of HT6.out]; omega
      · obtain rfl : k = sf.size := by omega
        have hnx : ∀ ty, (Instr.next (.pointer (some ⟨w2.heap.size + 2, 0, none⟩)) true ty).run Tryz.prog wr = _ := fun ty => Lib.run_next_end_at wr (w2.heap.size + 2) sf sf.size ty HTi.out (Nat.lt_irrefl _)
        have HER : Hid (R = (x, true)) := by refine HE.out.trans ?_; rw [fin_toList]; rfl
        obtain ⟨⟨x0, x1, x2, x3, x4, x5⟩, xz⟩ := six_of HI.out
        obtain ⟨⟨z0, z1, z2, z3, z4, z5⟩, zz⟩ := six_of HZ.out
        have hne : w2.heap.size + 1 ≠ w.heap.size := by omega
        clear HE
        go_wp2
        refine bodyPost_ret (by rw [results_cell_tmp rfl]; go_simp; rfl) rfl ?_
        rw [HER.out]
        exact ⟨rfl, (((((HB.out.setCell (by simp) _).setCell (by simp) _).setCell (by simp) _).setCell (by simp) _).setCell (by simp) _).setCell (by simp) _⟩
end Go.Proofs.YtpgehocadohkiaaGreatDoor
end
