import Derived.Test.YthjngodkpldpfaaGreatDoorMgAW
import Derived.Test.YthjngodkpldpfaaGreatDoorMgAI
import Derived.Deep.QuietTactic
import Derived.Test.YthjngodkpldpfaaGreatDoorMgAX

section
namespace Go.Proofs.YthjngodkpldpfaaGreatDoor
open Go.RowKit Go.Shelf

/-- an instruction in memory -/
def Ib (w : World) (B : Nat) (x : In) : Prop := w.heap[B]? = some (.cells #[.int .i64 x.op, .int .i64 x.a, .int .i64 x.b, .int .i64 x.c, .int .i64 x.n, .int .u64 (x.k : Int)] 66 (0, 0))
theorem Ib.lt {w : World} {B : Nat} {x : In} (h : Ib w B x) : B < w.heap.size := lt_of_block h
theorem Ib.grown {w w' : World} {B : Nat} {x : In} (h : Ib w B x) {r : Option Nat} (g : w.grownBy w' r) (hn : some B ≠ r) : Ib w' B x := (g.block B h.lt hn).trans h
theorem size_list (s : ByteArray) : s.toList.length = s.size := by rw [ByteArray.toList_eq]; rfl
def Pb (w : World) (B : Nat) (fuel : Int) (v : Value) : Prop := w.heap[B]? = some (.cells #[.int .i64 fuel, v] 24 (0, 0))
theorem Pb.lt {w : World} {B : Nat} {f : Int} {v : Value} (h : Pb w B f v) : B < w.heap.size := lt_of_block h
theorem Pb.grown {w w' : World} {B : Nat} {f : Int} {v : Value} (h : Pb w B f v) {r : Option Nat} (g : w.grownBy w' r) (hn : some B ≠ r) : Pb w' B f v := (g.block B h.lt hn).trans h
theorem Pb.c0 {w : World} {B : Nat} {f : Int} {v : Value} (h : Pb w B f v) : w.cell? ⟨B, 0, none⟩ = some (.int .i64 f) := by unfold Pb at h; simp [World.cell?, h]
theorem Pb.c1 {w : World} {B : Nat} {f : Int} {v : Value} (h : Pb w B f v) : w.cell? ⟨B, 1, none⟩ = some v := by unfold Pb at h; simp [World.cell?, h]
end Go.Proofs.YthjngodkpldpfaaGreatDoor
end

section
namespace Go.Proofs.YthjngodkpldpfaaGreatDoor
open Go.RowKit Go.Shelf

namespace Pg
def words : List ByteArray := [⟨#[]⟩, ⟨#[115, 101, 116]⟩, ⟨#[109, 111, 118, 101]⟩, ⟨#[97, 100, 100]⟩, ⟨#[115, 117, 98]⟩, ⟨#[109, 117, 108]⟩, ⟨#[100, 105, 118]⟩, ⟨#[109, 105, 110]⟩, ⟨#[109, 97, 120]⟩, ⟨#[108, 101, 115, 115]⟩, ⟨#[111, 114, 100, 101, 114]⟩, ⟨#[110, 101, 103]⟩, ⟨#[97, 98, 115]⟩, ⟨#[102, 108, 111, 111, 114]⟩, ⟨#[106, 117, 109, 112]⟩, ⟨#[105, 102]⟩, ⟨#[103, 111, 116, 111]⟩, ⟨#[99, 97, 108, 108]⟩, ⟨#[114, 101, 116]⟩, ⟨#[112, 117, 115, 104]⟩, ⟨#[112, 111, 112]⟩, ⟨#[101, 109, 105, 116]⟩, ⟨#[119, 114, 105, 116, 101]⟩, ⟨#[102, 97, 105, 108]⟩, ⟨#[104, 97, 108, 116]⟩]
def wordP (op : Int) : ByteArray := if op < 0 ∨ 25 ≤ op then ⟨#[]⟩ else words[op.toNat]!
def hasP (op : Int) : Nat × Bool × Bool := if op = 1 then (1, false, true) else if op = 2 ∨ op = 11 ∨ op = 12 ∨ op = 13 then (2, false, false) else if op = 3 ∨ op = 4 ∨ op = 5 ∨ op = 6 ∨ op = 7 ∨ op = 8 ∨ op = 9 ∨ op = 10 then (3, false, false) else if op = 14 ∨ op = 17 then (0, true, false) else if op = 15 then (1, true, false) else if op = 16 ∨ op = 19 ∨ op = 20 ∨ op = 21 ∨ op = 22 ∨ op = 23 then (1, false, false) else (0, false, false)
end Pg
theorem words_cell (w : World) : ∀ j, j < 25 → (w.alloc (.cells (Pg.words.map Value.string).toArray 9)).cell? ⟨w.heap.size, j, none⟩ = some (.string Pg.words[j]!) := by
  intro j hj
  rw [World.cell?_alloc_at _ _ _ _ rfl]
  show (Pg.words.map Value.string).toArray[j]? = _
  rw [List.getElem?_toArray, List.getElem?_map, List.getElem?_eq_getElem (show j < Pg.words.length from hj), getElem!_pos Pg.words j hj]
  rfl
set_option maxRecDepth 20000 in
set_option maxHeartbeats 2000000 in
theorem word_any (op : Int) (w : World) : Calls Tryz.prog 50 #[.int .i64 op] w fun e w' => e = .returned (.string (Pg.wordP op)) ∧ Below w.heap.size w w' := by
  unfold Pg.wordP
  by_cases h1 : op < 0
  · rw [if_pos (.inl h1)]
    go_enter Tryz.func50, Tryz.ntmps50
    go_wp2
    go_ret
    exact ⟨rfl, below_one _ _⟩
  by_cases h2 : 25 ≤ op
  · rw [if_pos (.inr h2)]
    go_enter Tryz.func50, Tryz.ntmps50
    go_wp2
    go_ret
    exact ⟨rfl, below_one _ _⟩
  rw [if_neg (by omega)]
  obtain ⟨n, rfl⟩ : ∃ n : Nat, op = (n : Int) := ⟨op.toNat, by omega⟩
  rw [Int.toNat_natCast]
  have hn : n < 25 := by omega
  have hc := words_cell w n hn
  have hni : (n : Int) < 25 := by omega
  generalize Pg.words[n]! = s at *
  have e0 : (w.alloc (.cells (Pg.words.map Value.string).toArray 9)) = w.alloc (.cells #[.string ⟨#[]⟩, .string ⟨#[115, 101, 116]⟩, .string ⟨#[109, 111, 118, 101]⟩, .string ⟨#[97, 100, 100]⟩, .string ⟨#[115, 117, 98]⟩, .string ⟨#[109, 117, 108]⟩, .string ⟨#[100, 105, 118]⟩, .string ⟨#[109, 105, 110]⟩, .string ⟨#[109, 97, 120]⟩, .string ⟨#[108, 101, 115, 115]⟩, .string ⟨#[111, 114, 100, 101, 114]⟩, .string ⟨#[110, 101, 103]⟩, .string ⟨#[97, 98, 115]⟩, .string ⟨#[102, 108, 111, 111, 114]⟩, .string ⟨#[106, 117, 109, 112]⟩, .string ⟨#[105, 102]⟩, .string ⟨#[103, 111, 116, 111]⟩, .string ⟨#[99, 97, 108, 108]⟩, .string ⟨#[114, 101, 116]⟩, .string ⟨#[112, 117, 115, 104]⟩, .string ⟨#[112, 111, 112]⟩, .string ⟨#[101, 109, 105, 116]⟩, .string ⟨#[119, 114, 105, 116, 101]⟩, .string ⟨#[102, 97, 105, 108]⟩, .string ⟨#[104, 97, 108, 116]⟩] 9) := rfl
  rw [e0] at hc
  clear e0
  go_enter Tryz.func50, Tryz.ntmps50
  go_wp2
  go_ret
  exact ⟨rfl, below_one _ _⟩
set_option maxRecDepth 20000 in
set_option maxHeartbeats 2000000 in
theorem has_any (op : Int) (w : World) : Calls Tryz.prog 51 #[.int .i64 op] w fun e w' => e = .returned (.tuple #[.int .i64 ((Pg.hasP op).1 : Int), .bool (Pg.hasP op).2.1, .bool (Pg.hasP op).2.2]) ∧ w' = w := by
  by_cases h1 : op = 1
  · subst h1
    go_enter Tryz.func51, Tryz.ntmps51
    go_wp2
    go_ret3
    exact ⟨rfl, rfl⟩
  have b1 : (op == 1) = false := beq_eq_false_iff_ne.2 h1
  by_cases h2 : op = 2
  · subst h2
    go_enter Tryz.func51, Tryz.ntmps51
    go_wp2
    go_ret3
    exact ⟨rfl, rfl⟩
  have b2 : (op == 2) = false := beq_eq_false_iff_ne.2 h2
  by_cases h11 : op = 11
  · subst h11
    go_enter Tryz.func51, Tryz.ntmps51
    go_wp2
    go_ret3
    exact ⟨rfl, rfl⟩
  have b11 : (op == 11) = false := beq_eq_false_iff_ne.2 h11
  by_cases h12 : op = 12
  · subst h12
    go_enter Tryz.func51, Tryz.ntmps51
    go_wp2
    go_ret3
    exact ⟨rfl, rfl⟩
  have b12 : (op == 12) = false := beq_eq_false_iff_ne.2 h12
  by_cases h13 : op = 13
  · subst h13
    go_enter Tryz.func51, Tryz.ntmps51
    go_wp2
    go_ret3
    exact ⟨rfl, rfl⟩
  have b13 : (op == 13) = false := beq_eq_false_iff_ne.2 h13
  by_cases h3 : op = 3
  · subst h3
    go_enter Tryz.func51, Tryz.ntmps51
    go_wp2
    go_ret3
    exact ⟨rfl, rfl⟩
  have b3 : (op == 3) = false := beq_eq_false_iff_ne.2 h3
  by_cases h4 : op = 4
  · subst h4
    go_enter Tryz.func51, Tryz.ntmps51
    go_wp2
    go_ret3
    exact ⟨rfl, rfl⟩
  have b4 : (op == 4) = false := beq_eq_false_iff_ne.2 h4
  by_cases h5 : op = 5
  · subst h5
    go_enter Tryz.func51, Tryz.ntmps51
    go_wp2
    go_ret3
    exact ⟨rfl, rfl⟩
  have b5 : (op == 5) = false := beq_eq_false_iff_ne.2 h5
  by_cases h6 : op = 6
  · subst h6
    go_enter Tryz.func51, Tryz.ntmps51
    go_wp2
    go_ret3
    exact ⟨rfl, rfl⟩
  have b6 : (op == 6) = false := beq_eq_false_iff_ne.2 h6
  by_cases h7 : op = 7
  · subst h7
    go_enter Tryz.func51, Tryz.ntmps51
    go_wp2
    go_ret3
    exact ⟨rfl, rfl⟩
  have b7 : (op == 7) = false := beq_eq_false_iff_ne.2 h7
  by_cases h8 : op = 8
  · subst h8
    go_enter Tryz.func51, Tryz.ntmps51
    go_wp2
    go_ret3
    exact ⟨rfl, rfl⟩
  have b8 : (op == 8) = false := beq_eq_false_iff_ne.2 h8
  by_cases h9 : op = 9
  · subst h9
    go_enter Tryz.func51, Tryz.ntmps51
    go_wp2
    go_ret3
    exact ⟨rfl, rfl⟩
  have b9 : (op == 9) = false := beq_eq_false_iff_ne.2 h9
  by_cases h10 : op = 10
  · subst h10
    go_enter Tryz.func51, Tryz.ntmps51
    go_wp2
    go_ret3
    exact ⟨rfl, rfl⟩
  have b10 : (op == 10) = false := beq_eq_false_iff_ne.2 h10
  by_cases h14 : op = 14
  · subst h14
    go_enter Tryz.func51, Tryz.ntmps51
    go_wp2
    go_ret3
    exact ⟨rfl, rfl⟩
  have b14 : (op == 14) = false := beq_eq_false_iff_ne.2 h14
  by_cases h17 : op = 17
  · subst h17
    go_enter Tryz.func51, Tryz.ntmps51
    go_wp2
    go_ret3
    exact ⟨rfl, rfl⟩
  have b17 : (op == 17) = false := beq_eq_false_iff_ne.2 h17
  by_cases h15 : op = 15
  · subst h15
    go_enter Tryz.func51, Tryz.ntmps51
    go_wp2
    go_ret3
    exact ⟨rfl, rfl⟩
  have b15 : (op == 15) = false := beq_eq_false_iff_ne.2 h15
  by_cases h16 : op = 16
  · subst h16
    go_enter Tryz.func51, Tryz.ntmps51
    go_wp2
    go_ret3
    exact ⟨rfl, rfl⟩
  have b16 : (op == 16) = false := beq_eq_false_iff_ne.2 h16
  by_cases h19 : op = 19
  · subst h19
    go_enter Tryz.func51, Tryz.ntmps51
    go_wp2
    go_ret3
    exact ⟨rfl, rfl⟩
  have b19 : (op == 19) = false := beq_eq_false_iff_ne.2 h19
  by_cases h20 : op = 20
  · subst h20
    go_enter Tryz.func51, Tryz.ntmps51
    go_wp2
    go_ret3
    exact ⟨rfl, rfl⟩
  have b20 : (op == 20) = false := beq_eq_false_iff_ne.2 h20
  by_cases h21 : op = 21
  · subst h21
    go_enter Tryz.func51, Tryz.ntmps51
    go_wp2
    go_ret3
    exact ⟨rfl, rfl⟩
  have b21 : (op == 21) = false := beq_eq_false_iff_ne.2 h21
  by_cases h22 : op = 22
  · subst h22
    go_enter Tryz.func51, Tryz.ntmps51
    go_wp2
    go_ret3
    exact ⟨rfl, rfl⟩
  have b22 : (op == 22) = false := beq_eq_false_iff_ne.2 h22
  by_cases h23 : op = 23
  · subst h23
    go_enter Tryz.func51, Tryz.ntmps51
    go_wp2
    go_ret3
    exact ⟨rfl, rfl⟩
  have b23 : (op == 23) = false := beq_eq_false_iff_ne.2 h23
  have hh : Pg.hasP op = (0, false, false) := by unfold Pg.hasP; rw [if_neg (by omega), if_neg (by omega), if_neg (by omega), if_neg (by omega), if_neg (by omega), if_neg (by omega)]
  rw [hh]
  go_enter Tryz.func51, Tryz.ntmps51
  go_wp2
  go_ret3
  exact ⟨rfl, rfl⟩
end Go.Proofs.YthjngodkpldpfaaGreatDoor
end

section
namespace Go.Proofs.YthjngodkpldpfaaGreatDoor
open Go.RowKit Go.Shelf

set_option maxHeartbeats 400000 in
theorem rcanonP_any (a : Nat) (h : a < 18446744073709551616) (w : World) : Calls Tryz.prog 23 #[.int .u64 (a : Int)] w fun e w' => e = .returned (.int .u64 (Gn.canonW a : Int)) ∧ w' = w := by
  unfold Gn.canonW
  have HN := hide (rnan_any a h)
  by_cases hn : clsN a = 0
  · rw [if_pos ((cls_nan a).1 hn)]
    rw [decide_eq_true hn] at HN
    clear hn
    go_enter Tryz.func23, Tryz.ntmps23
    go_wp2_with (go_at_call 35; refine (HN.out _).mono ?_; rintro e w' ⟨rfl, rfl⟩)
    go_ret
    exact ⟨rfl, rfl⟩
  · rw [if_neg (fun k => hn ((cls_nan a).2 k))]
    rw [decide_eq_false hn] at HN
    clear hn
    go_enter Tryz.func23, Tryz.ntmps23
    go_wp2_with (go_at_call 35; refine (HN.out _).mono ?_; rintro e w' ⟨rfl, rfl⟩)
    go_ret
    exact ⟨rfl, rfl⟩
namespace Pg
def regE (r i : Nat) (v : Int) : Int := if r ≤ i then (if v ≠ 0 then 54 else 0) else if v < 0 ∨ 7 < v then 52 else 0
def nE (nb : Bool) (n : Int) (many : Nat) : Int := if nb then (if n < 0 ∨ (many : Int) < n then 53 else 0) else if n ≠ 0 then 54 else 0
def kE (kb : Bool) (k : Nat) : Int := if kb then (if Gn.canonW k ≠ k then 54 else 0) else if k ≠ 0 then 54 else 0
def abc (x : In) (i : Nat) : Int := if i = 0 then x.a else if i = 1 then x.b else x.c
def regsE (r : Nat) (x : In) : List Nat → Int
  | [] => 0
  | i :: t => if regE r i (abc x i) ≠ 0 then regE r i (abc x i) else regsE r x t
def wrongP (h : Nat × Bool × Bool) (x : In) (many : Nat) : Int := if regsE h.1 x [0, 1, 2] ≠ 0 then regsE h.1 x [0, 1, 2] else if nE h.2.1 x.n many ≠ 0 then nE h.2.1 x.n many else kE h.2.2 x.k
end Pg
theorem regs_step (r : Nat) (x : In) : ∀ i, i < 3 → Pg.regsE r x (([0, 1, 2] : List Nat).drop i) = if Pg.regE r i (Pg.abc x i) ≠ 0 then Pg.regE r i (Pg.abc x i) else Pg.regsE r x (([0, 1, 2] : List Nat).drop (i + 1))
  | 0, _ => rfl
  | 1, _ => rfl
  | 2, _ => rfl
  | i + 3, h => by omega
set_option maxRecDepth 20000 in
set_option maxHeartbeats 2000000 in
theorem wrong_any (x : In) (hx : x.k < 18446744073709551616) (many : Nat) (w : World) :
    Calls Tryz.prog 40 #[.agg #[.int .i64 x.op, .int .i64 x.a, .int .i64 x.b, .int .i64 x.c, .int .i64 x.n, .int .u64 (x.k : Int)], .int .i64 (many : Int)] w fun e w' => e = .returned (.int .i64 (if (Pg.wordP x.op).toList = [] then 51 else Pg.wrongP (Pg.hasP x.op) x many)) ∧ Below w.heap.size w w' := by
  obtain ⟨R, hR⟩ : ∃ R, (if (Pg.wordP x.op).toList = [] then 51 else Pg.wrongP (Pg.hasP x.op) x many) = R := ⟨_, rfl⟩
  rw [hR]
  have HW := hide (word_any x.op)
  have HH := hide (has_any x.op)
  generalize Pg.wordP x.op = wd at *
  generalize Pg.hasP x.op = hp at *
  obtain ⟨r, nb, kb⟩ := hp
  by_cases hwd : wd.toList = []
  · rw [if_pos hwd] at hR
    have hwb : (wd.toList == []) = true := by rw [hwd]; rfl
    have HR := hide hR
    clear hR hwd
    go_enter Tryz.func40, Tryz.ntmps40
    go_wp2_with fail
    refine (HW.out _).mono ?_
    rintro e w1 ⟨rfl, hb1⟩
    have HB1 : Hid (Below w.heap.size w w1) := (below_one w _).trans (hb1.mono (by simp))
    clear hb1
    go_wp2
    go_ret
    exact ⟨by rw [← HR.out]; rfl, HB1.out⟩
  rw [if_neg hwd] at hR
  have hwb : (wd.toList == []) = false := beq_eq_false_iff_ne.2 hwd
  have HR := hide hR
  clear hR hwd
  go_enter Tryz.func40, Tryz.ntmps40
  go_wp2_with fail
  refine (HW.out _).mono ?_
  rintro e w1 ⟨rfl, hb1⟩
  have HB1 : Hid (Below w.heap.size w w1) := (below_one w _).trans (hb1.mono (by simp))
  have hI1 : Ib w1 w.heap.size x := (hb1.block w.heap.size (by simp)).trans (heap_alloc_new w _)
  have HI1 := hide hI1
  obtain ⟨⟨x0, x1, x2, x3, x4, x5⟩, xz⟩ := six_of hI1
  have hl1 := hI1.lt
  clear hb1 hI1 HW
  go_wp2_with fail
  refine (HH.out w1).mono ?_
  rintro e w1' ⟨rfl, hw1⟩
  obtain rfl : w1 = w1' := hw1.symm
  clear hw1 HH
  have HIl := hide (HI1.out.grown (grown_one w1 (.cells #[.int .i64 x.a, .int .i64 x.b, .int .i64 x.c] 113) none) (by simp))
  have HLl : Hid ((w1.alloc (.cells #[.int .i64 x.a, .int .i64 x.b, .int .i64 x.c] 113)).heap[w1.heap.size]? = some (.cells #[.int .i64 x.a, .int .i64 x.b, .int .i64 x.c] 113 (0, 0))) := heap_alloc_new w1 _
  have HBl := hide (HB1.out.alloc HB1.out.size (.cells #[.int .i64 x.a, .int .i64 x.b, .int .i64 x.c] 113))
  clear HI1 HB1
  go_wp2_with fail
  generalize w1.alloc (.cells #[.int .i64 x.a, .int .i64 x.b, .int .i64 x.c] 113) = W0 at *
  clear x0 x1 x2 x3 x4 x5 xz
  go_loopw [9] (fun s wr => ∃ i : Nat, i ≤ 3 ∧ s = .int .i64 (i : Int) ∧ wr = W0 ∧ Hid (Pg.regsE r x [0, 1, 2] = Pg.regsE r x (([0, 1, 2] : List Nat).drop i))) (fun s _ => 3 - (intOf s).toNat)
  case atStart => exact ⟨0, by omega, rfl, rfl, rfl⟩
  case round =>
    obtain ⟨i, hi, rfl, rfl, HE⟩ := hrel
    by_cases hlt : i < 3
    · have hli : (i : Int) < 3 := by omega
      have hc : wr.cell? ⟨w1.heap.size, i, none⟩ = some (.int .i64 (Pg.abc x i)) := by
        obtain ⟨⟨c0, c1, c2⟩, _⟩ := three_of HLl.out
        match i, hlt with
        | 0, _ => exact c0
        | 1, _ => exact c1
        | 2, _ => exact c2
      have HE2 := hide (HE.out.trans (regs_step r x i hlt))
      unfold Pg.regE at HE2
      generalize Pg.abc x i = a at *
      by_cases hr : r ≤ i
      · rw [if_pos hr] at HE2
        have hri : (r : Int) ≤ (i : Int) := by omega
        have hri2 : ¬ (i : Int) < (r : Int) := by omega
        by_cases ha : a = 0
        · subst ha
          go_wp2
          go_roundw
          case rel => exact ⟨i + 1, by omega, by go_num, by first | rfl | trivial, by have := HE2.out; rw [if_neg (by simp)] at this; exact this⟩
          case measure => simp [intOf]; omega
        · have hab : (a != 0) = true := by simp [ha]
          go_wp2
          go_ret
          refine ⟨?_, HBl.out⟩
          have h1 := HE2.out
          rw [if_pos ha, if_pos (by decide)] at h1
          rw [← HR.out]
          unfold Pg.wrongP
          rw [h1]
          rfl
      · rw [if_neg hr] at HE2
        have hri : ¬ (r : Int) ≤ (i : Int) := by omega
        have hri2 : (i : Int) < (r : Int) := by omega
        have fin : (a < 0 ∨ 7 < a) → R = 52 := fun hb => by
          have h1 := HE2.out
          rw [if_pos hb, if_pos (by decide)] at h1
          rw [← HR.out]
          unfold Pg.wrongP
          rw [h1]
          rfl
        have HF := hide fin
        have HG : Hid (¬ (a < 0 ∨ 7 < a) → Hid (Pg.regsE r x [0, 1, 2] = Pg.regsE r x (([0, 1, 2] : List Nat).drop (i + 1)))) := fun hn => by
          have h1 := HE2.out
          rw [if_neg hn, if_neg (by simp)] at h1
          exact h1
        clear fin
        by_cases ha : a < 0
        · go_wp2
          go_ret
          exact ⟨by rw [HF.out (.inl ha)]; rfl, HBl.out⟩
        · by_cases ha7 : 7 < a
          · go_wp2
            go_ret
            exact ⟨by rw [HF.out (.inr ha7)]; rfl, HBl.out⟩
          · go_wp2
            go_roundw
            case rel => exact ⟨i + 1, by omega, by go_num, by first | rfl | trivial, HG.out (by omega)⟩
            case measure => simp [intOf]; omega
    · obtain rfl : i = 3 := by omega
      have h0 : Pg.regsE r x [0, 1, 2] = 0 := HE.out
      have hR2 := HR.out
      unfold Pg.wrongP at hR2
      rw [h0, if_neg (by simp)] at hR2
      have HR2 := hide hR2
      obtain ⟨⟨x0, x1, x2, x3, x4, x5⟩, xz⟩ := six_of HIl.out
      have HCn := hide (rcanonP_any x.k hx)
      clear h0 hR2 HE HR
      cases nb with
      | false =>
        by_cases hn0 : x.n = 0
        · have hR3 : Pg.kE kb x.k = R := by
            have e : Pg.nE false x.n many = 0 := by (unfold Pg.nE; simp [hn0])
            have h := HR2.out; rw [show Pg.nE (r, false, kb).2.1 x.n many = 0 from e, if_neg (by simp)] at h; exact h
          have hnb : (x.n != 0) = false := by rw [hn0]; rfl
          generalize x.n = nn at *
          clear HR2 hn0
          cases kb with
          | false =>
            by_cases hk0 : x.k = 0
            · have HR3 : Hid (0 = R) := by have h := hR3; unfold Pg.kE at h; rw [if_neg (by simp), if_neg (by simp [hk0])] at h; exact h
              have hkb : ((x.k : Int) != 0) = false := by rw [hk0]; rfl
              generalize x.k = kk at *
              clear hR3 hk0
              go_wp2_with fail
              go_quiet ((go_at_call 23; exact Calls.quiet_of_same (HCn.out _)))
              go_wp2
              go_ret
              exact ⟨by rw [← HR3.out]; rfl, by first | exact HBl.out | exact ⟨HBl.out.os, HBl.out.tape, HBl.out.output, HBl.out.size, HBl.out.block⟩⟩
            · have HR3 : Hid (54 = R) := by have h := hR3; unfold Pg.kE at h; rw [if_neg (by simp), if_pos hk0] at h; exact h
              have hkb : ((x.k : Int) != 0) = true := by rw [bne_iff_ne]; omega
              generalize x.k = kk at *
              clear hR3 hk0
              go_wp2_with fail
              go_quiet ((go_at_call 23; exact Calls.quiet_of_same (HCn.out _)))
              go_wp2
              go_ret
              exact ⟨by rw [← HR3.out]; rfl, by first | exact HBl.out | exact ⟨HBl.out.os, HBl.out.tape, HBl.out.output, HBl.out.size, HBl.out.block⟩⟩
          | true =>
            by_cases hk0 : Gn.canonW x.k = x.k
            · have HR3 : Hid (0 = R) := by have h := hR3; unfold Pg.kE at h; rw [if_pos rfl, if_neg (by simp [hk0])] at h; exact h
              have hkb : ((Gn.canonW x.k : Int) != (x.k : Int)) = false := by rw [hk0]; simp
              generalize Gn.canonW x.k = ck at *
              generalize x.k = kk at *
              clear hR3 hk0
              go_wp2_with fail
              go_quiet ((go_at_call 23; exact Calls.quiet_of_same (HCn.out _)))
              go_wp2
              go_ret
              exact ⟨by rw [← HR3.out]; rfl, by first | exact HBl.out | exact ⟨HBl.out.os, HBl.out.tape, HBl.out.output, HBl.out.size, HBl.out.block⟩⟩
            · have HR3 : Hid (54 = R) := by have h := hR3; unfold Pg.kE at h; rw [if_pos rfl, if_pos hk0] at h; exact h
              have hkb : ((Gn.canonW x.k : Int) != (x.k : Int)) = true := by rw [bne_iff_ne]; omega
              generalize Gn.canonW x.k = ck at *
              generalize x.k = kk at *
              clear hR3 hk0
              go_wp2_with fail
              go_quiet ((go_at_call 23; exact Calls.quiet_of_same (HCn.out _)))
              go_wp2
              go_ret
              exact ⟨by rw [← HR3.out]; rfl, by first | exact HBl.out | exact ⟨HBl.out.os, HBl.out.tape, HBl.out.output, HBl.out.size, HBl.out.block⟩⟩
        · have HR3 : Hid (54 = R) := by
            have e : Pg.nE false x.n many = 54 := by (unfold Pg.nE; simp [hn0])
            have h := HR2.out; rw [show Pg.nE (r, false, kb).2.1 x.n many = 54 from e, if_pos (by decide)] at h; exact h
          have hnb : (x.n != 0) = true := by rw [bne_iff_ne]; exact hn0
          generalize x.n = nn at *
          clear HR2 hn0
          go_wp2
          go_ret
          exact ⟨by rw [← HR3.out]; rfl, HBl.out⟩
      | true =>
        by_cases hn1 : x.n < 0
        · have HR3 : Hid (53 = R) := by
            have e : Pg.nE true x.n many = 53 := by (unfold Pg.nE; rw [if_pos rfl, if_pos (Or.inl hn1)])
            have h := HR2.out; rw [show Pg.nE (r, true, kb).2.1 x.n many = 53 from e, if_pos (by decide)] at h; exact h
          generalize x.n = nn at *
          clear HR2
          go_wp2
          go_ret
          exact ⟨by rw [← HR3.out]; rfl, HBl.out⟩
        · by_cases hn2 : (many : Int) < x.n
          · have HR3 : Hid (53 = R) := by
              have e : Pg.nE true x.n many = 53 := by (unfold Pg.nE; rw [if_pos rfl, if_pos (Or.inr hn2)])
              have h := HR2.out; rw [show Pg.nE (r, true, kb).2.1 x.n many = 53 from e, if_pos (by decide)] at h; exact h
            generalize x.n = nn at *
            clear HR2
            go_wp2
            go_ret
            exact ⟨by rw [← HR3.out]; rfl, HBl.out⟩
          · have hR3 : Pg.kE kb x.k = R := by
              have e : Pg.nE true x.n many = 0 := by (unfold Pg.nE; rw [if_pos rfl, if_neg (by omega)])
              have h := HR2.out; rw [show Pg.nE (r, true, kb).2.1 x.n many = 0 from e, if_neg (by simp)] at h; exact h
            generalize x.n = nn at *
            clear HR2
            cases kb with
            | false =>
              by_cases hk0 : x.k = 0
              · have HR3 : Hid (0 = R) := by have h := hR3; unfold Pg.kE at h; rw [if_neg (by simp), if_neg (by simp [hk0])] at h; exact h
                have hkb : ((x.k : Int) != 0) = false := by rw [hk0]; rfl
                generalize x.k = kk at *
                clear hR3 hk0
                go_wp2_with fail
                go_quiet ((go_at_call 23; exact Calls.quiet_of_same (HCn.out _)))
                go_wp2
                go_ret
                exact ⟨by rw [← HR3.out]; rfl, by first | exact HBl.out | exact ⟨HBl.out.os, HBl.out.tape, HBl.out.output, HBl.out.size, HBl.out.block⟩⟩
              · have HR3 : Hid (54 = R) := by have h := hR3; unfold Pg.kE at h; rw [if_neg (by simp), if_pos hk0] at h; exact h
                have hkb : ((x.k : Int) != 0) = true := by rw [bne_iff_ne]; omega
                generalize x.k = kk at *
                clear hR3 hk0
                go_wp2_with fail
                go_quiet ((go_at_call 23; exact Calls.quiet_of_same (HCn.out _)))
                go_wp2
                go_ret
                exact ⟨by rw [← HR3.out]; rfl, by first | exact HBl.out | exact ⟨HBl.out.os, HBl.out.tape, HBl.out.output, HBl.out.size, HBl.out.block⟩⟩
            | true =>
              by_cases hk0 : Gn.canonW x.k = x.k
              · have HR3 : Hid (0 = R) := by have h := hR3; unfold Pg.kE at h; rw [if_pos rfl, if_neg (by simp [hk0])] at h; exact h
                have hkb : ((Gn.canonW x.k : Int) != (x.k : Int)) = false := by rw [hk0]; simp
                generalize Gn.canonW x.k = ck at *
                generalize x.k = kk at *
                clear hR3 hk0
                go_wp2_with fail
                go_quiet ((go_at_call 23; exact Calls.quiet_of_same (HCn.out _)))
                go_wp2
                go_ret
                exact ⟨by rw [← HR3.out]; rfl, by first | exact HBl.out | exact ⟨HBl.out.os, HBl.out.tape, HBl.out.output, HBl.out.size, HBl.out.block⟩⟩
              · have HR3 : Hid (54 = R) := by have h := hR3; unfold Pg.kE at h; rw [if_pos rfl, if_pos hk0] at h; exact h
                have hkb : ((Gn.canonW x.k : Int) != (x.k : Int)) = true := by rw [bne_iff_ne]; omega
                generalize Gn.canonW x.k = ck at *
                generalize x.k = kk at *
                clear hR3 hk0
                go_wp2_with fail
                go_quiet ((go_at_call 23; exact Calls.quiet_of_same (HCn.out _)))
                go_wp2
                go_ret
                exact ⟨by rw [← HR3.out]; rfl, by first | exact HBl.out | exact ⟨HBl.out.os, HBl.out.tape, HBl.out.output, HBl.out.size, HBl.out.block⟩⟩
end Go.Proofs.YthjngodkpldpfaaGreatDoor
end

section
namespace Go.Proofs.YthjngodkpldpfaaGreatDoor
open Go.RowKit Go.Shelf

theorem un_of (v : Int) (h : -9223372036854775808 ≤ v ∧ v ≤ 9223372036854775807) : (0 ≤ v → (Pg.un v : Int) = v) ∧ (v < 0 → 9223372036854775808 ≤ Pg.un v) := by
  unfold Pg.un
  constructor
  · intro h0; omega
  · intro h0; omega
theorem named_reg (v : Int) (h : -9223372036854775808 ≤ v ∧ v ≤ 9223372036854775807) (l many : Nat) (h1 : l ≠ 75) (h2 : l ≠ 78) : Pg.namedE (Pg.un v) l many = if v < 0 ∨ 7 < v then 52 else 0 := by
  have := un_of v h
  unfold Pg.namedE
  rw [if_neg h1, if_neg h2]
  by_cases h0 : v < 0
  · rw [if_pos (by have := this.2 h0; omega), if_pos (.inl h0)]
  · have h3 := this.1 (by omega)
    by_cases h7 : 7 < v
    · rw [if_pos (by omega), if_pos (.inr h7)]
    · rw [if_neg (by omega), if_neg (by omega)]
theorem unnamed_reg (v : Int) (h : -9223372036854775808 ≤ v ∧ v ≤ 9223372036854775807) : Pg.unnamedE (Pg.un v) = if v ≠ 0 then 54 else 0 := by
  have := un_of v h
  unfold Pg.unnamedE
  by_cases h0 : v = 0
  · subst h0; rfl
  · rw [if_pos h0]
    refine if_pos ?_
    by_cases h1 : v < 0
    · have := this.2 h1; omega
    · have := this.1 (by omega); omega
theorem named_n (v : Int) (h : -9223372036854775808 ≤ v ∧ v ≤ 9223372036854775807) (many : Nat) (hm : many ≤ 64) : Pg.namedE (Pg.un v) 78 many = if v < 0 ∨ (many : Int) < v then 53 else 0 := by
  have := un_of v h
  unfold Pg.namedE
  rw [if_neg (by decide), if_pos rfl]
  by_cases h0 : v < 0
  · rw [if_pos (by have := this.2 h0; omega), if_pos (.inl h0)]
  · have h3 := this.1 (by omega)
    by_cases h7 : (many : Int) < v
    · rw [if_pos (by omega), if_pos (.inr h7)]
    · rw [if_neg (by omega), if_neg (by omega)]
theorem field_reg (fs : ByteArray) (x : In) (many l i r : Nat) (v : Int) (hg : Pg.get x l = Pg.un v) (hv : -9223372036854775808 ≤ v ∧ v ≤ 9223372036854775807) (h1 : l ≠ 75) (h2 : l ≠ 78) (hh : Pg.has fs l = decide (i < r)) : Pg.fieldE fs x many l = Pg.regE r i v := by
  unfold Pg.fieldE Pg.regE
  rw [hg, hh]
  by_cases hr : r ≤ i
  · rw [decide_eq_false (by omega), if_pos hr]
    exact unnamed_reg v hv
  · rw [decide_eq_true (by omega), if_neg hr]
    exact named_reg v hv l many h1 h2
theorem insE_of (fs : ByteArray) (x : In) (hx : x.Fits) (many : Nat) (hm : many ≤ 64) (r : Nat) (nb kb : Bool) (hA : Pg.has fs 65 = decide (0 < r)) (hB : Pg.has fs 66 = decide (1 < r)) (hC : Pg.has fs 67 = decide (2 < r)) (hN : Pg.has fs 78 = nb) (hK : Pg.has fs 75 = kb) :
    Pg.firstE fs x many [65, 66, 67, 78, 75] = Pg.wrongP (r, nb, kb) x many := by
  have eA := field_reg fs x many 65 0 r x.a rfl hx.a (by decide) (by decide) hA
  have eB := field_reg fs x many 66 1 r x.b rfl hx.b (by decide) (by decide) hB
  have eC := field_reg fs x many 67 2 r x.c rfl hx.c (by decide) (by decide) hC
  have eN : Pg.fieldE fs x many 78 = Pg.nE nb x.n many := by
    unfold Pg.fieldE Pg.nE
    rw [hN, show Pg.get x 78 = Pg.un x.n from rfl]
    cases nb with
    | true => exact named_n x.n hx.n many hm
    | false => exact unnamed_reg x.n hx.n
  have eK : Pg.fieldE fs x many 75 = Pg.kE kb x.k := by
    unfold Pg.fieldE Pg.kE
    rw [hK, show Pg.get x 75 = x.k from rfl]
    cases kb <;> rfl
  have hF : Pg.firstE fs x many [65, 66, 67, 78, 75] = if Pg.fieldE fs x many 65 ≠ 0 then Pg.fieldE fs x many 65 else if Pg.fieldE fs x many 66 ≠ 0 then Pg.fieldE fs x many 66 else if Pg.fieldE fs x many 67 ≠ 0 then Pg.fieldE fs x many 67 else if Pg.fieldE fs x many 78 ≠ 0 then Pg.fieldE fs x many 78 else if Pg.fieldE fs x many 75 ≠ 0 then Pg.fieldE fs x many 75 else 0 := rfl
  have hG : Pg.regsE r x [0, 1, 2] = if Pg.regE r 0 x.a ≠ 0 then Pg.regE r 0 x.a else if Pg.regE r 1 x.b ≠ 0 then Pg.regE r 1 x.b else if Pg.regE r 2 x.c ≠ 0 then Pg.regE r 2 x.c else 0 := rfl
  unfold Pg.wrongP
  rw [hF, hG, eA, eB, eC, eN, eK]
  generalize Pg.regE r 0 x.a = a
  generalize Pg.regE r 1 x.b = b
  generalize Pg.regE r 2 x.c = c
  generalize Pg.kE kb x.k = k
  generalize Pg.nE nb x.n many = n
  by_cases ha : a = 0
  · by_cases hb : b = 0
    · by_cases hc : c = 0
      · by_cases hn : n = 0
        · by_cases hk : k = 0 <;> simp [ha, hb, hc, hn, hk]
        · simp [ha, hb, hc, hn]
      · simp [ha, hb, hc]
    · simp [ha, hb]
  · simp [ha]
theorem shape_none (op : Int) (h : ¬ (1 ≤ op ∧ op ≤ 24)) : (Pg.shape op).2 = false := by
  unfold Pg.shape Pg.find
  have : Pg.tbl.findIdx? (fun s => s.op == op) = none := by
    rw [List.findIdx?_eq_none_iff]
    intro s hs
    have : ∀ s ∈ Pg.tbl, 1 ≤ s.op ∧ s.op ≤ 24 := by
      intro s hs
      have h1 : Pg.tbl.all (fun s => decide (1 ≤ s.op ∧ s.op ≤ 24)) = true := by decide
      simpa using List.all_eq_true.1 h1 s hs
    have := this s hs
    rw [beq_eq_false_iff_ne]
    omega
  rw [this]
theorem insE_ref (x : In) (hx : x.Fits) (many : Nat) (hm : many ≤ 64) : Pg.insE x many = if (Pg.wordP x.op).toList = [] then 51 else Pg.wrongP (Pg.hasP x.op) x many := by
  unfold Pg.insE
  by_cases h : 1 ≤ x.op ∧ x.op ≤ 24
  · have hc : ∃ n : Fin 24, x.op = ((n.val + 1 : Nat) : Int) := ⟨⟨x.op.toNat - 1, by omega⟩, by show x.op = ((x.op.toNat - 1 + 1 : Nat) : Int); omega⟩
    obtain ⟨n, hn⟩ := hc
    have hall : ∀ n : Fin 24, (Pg.shape ((n.val + 1 : Nat) : Int)).2 = true ∧ (Pg.wordP ((n.val + 1 : Nat) : Int)).size ≠ 0 ∧ Pg.has (Pg.shape ((n.val + 1 : Nat) : Int)).1.flds 65 = decide (0 < (Pg.hasP ((n.val + 1 : Nat) : Int)).1) ∧ Pg.has (Pg.shape ((n.val + 1 : Nat) : Int)).1.flds 66 = decide (1 < (Pg.hasP ((n.val + 1 : Nat) : Int)).1) ∧ Pg.has (Pg.shape ((n.val + 1 : Nat) : Int)).1.flds 67 = decide (2 < (Pg.hasP ((n.val + 1 : Nat) : Int)).1) ∧ Pg.has (Pg.shape ((n.val + 1 : Nat) : Int)).1.flds 78 = (Pg.hasP ((n.val + 1 : Nat) : Int)).2.1 ∧ Pg.has (Pg.shape ((n.val + 1 : Nat) : Int)).1.flds 75 = (Pg.hasP ((n.val + 1 : Nat) : Int)).2.2 := by decide
    obtain ⟨h1, h2, h3, h4, h5, h6, h7⟩ := hall n
    rw [← hn] at h1 h2 h3 h4 h5 h6 h7
    rw [if_neg (by rw [h1]; simp), if_neg (fun e => h2 (by have := congrArg List.length e; rwa [size_list] at this))]
    exact insE_of _ x hx many hm _ _ _ h3 h4 h5 h6 h7
  · rw [if_pos (shape_none x.op h)]
    have : Pg.wordP x.op = ⟨#[]⟩ := by
      unfold Pg.wordP
      by_cases h0 : x.op < 0 ∨ 25 ≤ x.op
      · rw [if_pos h0]
      · rw [if_neg h0, show x.op = 0 by omega]; rfl
    rw [this, if_pos (by rw [ByteArray.toList_eq])]
end Go.Proofs.YthjngodkpldpfaaGreatDoor
end

section
namespace Go.Proofs.YthjngodkpldpfaaGreatDoor
open Go.RowKit Go.Shelf

set_option maxRecDepth 20000 in
set_option maxHeartbeats 2000000 in
theorem rcheck_any (fuel : Int) (xs : List In) (hx : ∀ x ∈ xs, x.Fits) (v : Value) (w : World) (h : Cd w v xs) :
    Calls Tryz.prog 32 #[.agg #[.int .i64 fuel, v]] w fun e w' => e = .returned (.tuple #[.int .i64 (Pg.checkE fuel xs).1, .int .i64 (Pg.checkE fuel xs).2]) ∧ Below w.heap.size w w' := by
  obtain ⟨p, cap, rfl, h2⟩ := h
  unfold Pg.checkE
  by_cases h1 : fuel < 1
  · rw [if_pos (.inl h1)]
    go_enter Tryz.func32, Tryz.ntmps32
    go_wp2
    go_ret2
    exact ⟨rfl, below_one _ _⟩
  by_cases h3 : 1024 < fuel
  · rw [if_pos (.inr h3)]
    go_enter Tryz.func32, Tryz.ntmps32
    go_wp2
    go_ret2
    exact ⟨rfl, below_one _ _⟩
  rw [if_neg (by omega)]
  by_cases h4 : xs.length = 0
  · rw [if_pos (.inl h4)]
    rw [h4] at h2 ⊢
    go_enter Tryz.func32, Tryz.ntmps32
    go_wp2
    go_ret2
    exact ⟨rfl, below_one _ _⟩
  by_cases h5 : 64 < xs.length
  · rw [if_pos (.inr h5)]
    have b0 : ¬ (xs.length : Int) < 1 := by omega
    have b1 : (64 : Int) < (xs.length : Int) := by omega
    generalize xs.length = m at *
    go_enter Tryz.func32, Tryz.ntmps32
    go_wp2
    go_ret2
    exact ⟨rfl, below_one _ _⟩
  rw [if_neg (by omega)]
  obtain ⟨b, off, rfl, hlt, hc⟩ := h2 (by omega)
  have b0 : ¬ (xs.length : Int) < 1 := by omega
  have b1 : ¬ (64 : Int) < (xs.length : Int) := by omega
  have HC := hide hc
  have HX := hide hx
  clear hc hx
  have hm : xs.length ≤ 64 := by omega
  go_enter Tryz.func32, Tryz.ntmps32
  go_wp2_with fail
  go_loopw [4] (fun s wr => ∃ k : Nat, k ≤ xs.length ∧ s = .int .i64 (k : Int) ∧ Hid (Below (w.heap.size + 1) (w.alloc (.cells #[.int .i64 fuel, .slice (some ⟨b, off, none⟩) xs.length cap] 24)) wr) ∧ Hid (Pg.goE xs.length xs 0 = Pg.goE xs.length (xs.drop k) k)) (fun s _ => xs.length - (intOf s).toNat)
  case atStart => exact ⟨0, Nat.zero_le _, rfl, Below.refl _ _, rfl⟩
  case round =>
    obtain ⟨k, hk, rfl, HB, HE⟩ := hrel
    have hp : Pb wr w.heap.size fuel (.slice (some ⟨b, off, none⟩) xs.length cap) := (HB.out.block w.heap.size (by omega)).trans (heap_alloc_new w _)
    have hpc := hp.c1
    have hpl := hp.lt
    by_cases hkl : k < xs.length
    · have hc : ∀ i u, (xs[k]!).cs[i]? = some u → wr.cell? ⟨b, off + k * 6 + i, none⟩ = some u := fun i u hi =>
        (HB.out.cell (p := ⟨b, off + k * 6 + i, none⟩) (by show b < w.heap.size + 1; omega)).trans ((World.cell?_alloc_past _ _ _ hlt).trans (HC.out k hkl i u hi))
      have c0 := hc 0 _ rfl
      have c1 := hc 1 _ rfl
      have c2 := hc 2 _ rfl
      have c3 := hc 3 _ rfl
      have c4 := hc 4 _ rfl
      have c5 := hc 5 _ rfl
      simp only [Nat.add_zero] at c0
      have hg := goE_drop xs.length xs k hkl
      have HE2 := hide (HE.out.trans hg)
      have hxk := HX.out xs[k]! (by rw [getElem!_pos xs k hkl]; exact List.getElem_mem hkl)
      have HI := hide (wrong_any xs[k]! hxk.k xs.length)
      rw [← insE_ref xs[k]! hxk xs.length hm] at HI
      generalize xs[k]! = x at *
      generalize Pg.insE x xs.length = E at *
      have hki : (k : Int) < (xs.length : Int) := by omega
      clear hc hg hp hxk HE
      go_wp2_with fail
      go_region_held3 (fun w' => w'.cell? ⟨w.heap.size, 1, none⟩ = some (.slice (some ⟨b, off, none⟩) xs.length cap) ∧ w'.cell? ⟨b, off + k * 6, none⟩ = some (.int .i64 x.op) ∧ w'.cell? ⟨b, off + k * 6 + 1, none⟩ = some (.int .i64 x.a) ∧ w'.cell? ⟨b, off + k * 6 + 2, none⟩ = some (.int .i64 x.b) ∧ w'.cell? ⟨b, off + k * 6 + 3, none⟩ = some (.int .i64 x.c) ∧ w'.cell? ⟨b, off + k * 6 + 4, none⟩ = some (.int .i64 x.n) ∧ w'.cell? ⟨b, off + k * 6 + 5, none⟩ = some (.int .u64 (x.k : Int))) (go_keep) (first
        | (go_at_call 40; refine (HI.out _).mono ?_; rintro e w2 ⟨rfl, hb2⟩; have d := (hb2.cell (World.block_lt_of_cell? _ _ hpc)).trans hpc; have d0 := (hb2.cell (World.block_lt_of_cell? _ _ c0)).trans c0; have d1 := (hb2.cell (World.block_lt_of_cell? _ _ c1)).trans c1; have d2 := (hb2.cell (World.block_lt_of_cell? _ _ c2)).trans c2; have d3 := (hb2.cell (World.block_lt_of_cell? _ _ c3)).trans c3; have d4 := (hb2.cell (World.block_lt_of_cell? _ _ c4)).trans c4; have d5 := (hb2.cell (World.block_lt_of_cell? _ _ c5)).trans c5; have HBB := hide hb2; clear hb2))
      have HB2 : Hid (Below (w.heap.size + 1) (w.alloc (.cells #[.int .i64 fuel, .slice (some ⟨b, off, none⟩) xs.length cap] 24)) w2) := HB.out.drew.trans (HBB.out.mono (by show w.heap.size + 1 ≤ wr.heap.size; omega))
      clear HB HBB c0 c1 c2 c3 c4 c5 d d0 d1 d2 d3 d4 d5
      by_cases hE : E = 0
      · subst hE
        go_wp2
        go_roundw
        case rel => exact ⟨k + 1, by omega, by go_num, HB2, by have := HE2.out; rw [if_neg (by simp)] at this; exact this⟩
        case measure => simp [intOf]; omega
      · have hb : (E != 0) = true := by simp [hE]
        go_wp2
        go_ret2
        exact ⟨by rw [show Pg.goE xs.length xs 0 = (E, (k : Int)) by have := HE2.out; rw [if_pos hE] at this; exact this]; rfl, (below_one w _).trans (HB2.out.mono (by omega))⟩
    · obtain rfl : k = xs.length := by omega
      have hki : ¬ (xs.length : Int) < (xs.length : Int) := by omega
      have e0 : Pg.goE xs.length xs 0 = (0, 0) := by rw [HE.out, List.drop_length]; rfl
      have HE0 := hide e0
      clear e0 HE hp
      go_wp2
      go_ret2
      exact ⟨by rw [HE0.out]; rfl, (below_one w _).trans (HB.out.mono (by omega))⟩
end Go.Proofs.YthjngodkpldpfaaGreatDoor
end

section
namespace Go.Proofs.YthjngodkpldpfaaGreatDoor
open Go.RowKit Go.Shelf

set_option maxRecDepth 20000 in
set_option maxHeartbeats 8000000 in
theorem iawake_true (w : World) (hT : Tbs w) : Calls Tryz.prog 11 #[] w fun e w' => e = .returned (.bool true) ∧ Below w.heap.size w w' := by
  have HX := hide example_any
  have HT := hide hT
  clear hT
  go_enter Tryz.func11, Tryz.ntmps11
  go_wp2_with fail
  refine (HX.out _).mono ?_
  rintro e w1 ⟨v1, rfl, hc1, hb1⟩
  go_wp2_with fail
  refine (wholeE w1 v1 hc1 (HT.out.below hb1)).mono ?_
  rintro e w2 ⟨gc, capc, adp, capp, rfl, kc, hb2⟩
  have HB2 : Hid (Below w.heap.size w w2) := hb1.trans (hb2.mono hb1.size)
  have hgc := World.block_lt_of_cell? _ _ kc
  clear hb1 hb2 hc1
  go_wp2_with fail
  refine (HX.out _).mono ?_
  rintro e w3 ⟨v3, rfl, hc3, hb3⟩
  go_wp2_with fail
  refine (new_ok xsE_fits hc3 xsE_check (by decide) (by decide)).mono ?_
  rintro e w4 ⟨B, v4, rfl, hmb, hcd, hB, hb4⟩
  have hw3 := hb3.size
  rw [World.size_alloc] at hw3
  have HO4 : Hid (w4.heap[w2.heap.size]? = some (.cells #[.int .i64 0, .int .u64 4609434218613702656, .slice (some ⟨gc, 0, none⟩) 1 capc, .slice adp 0 capp, .int .i64 3] 48 (0, 0))) := (hb4.block w2.heap.size (by omega)).trans ((hb3.block w2.heap.size (by simp)).trans (heap_alloc_new w2 _))
  have kc4 : w4.cell? ⟨gc, 0, none⟩ = some (.string Im.t31) := (hb4.cell (p := ⟨gc, 0, none⟩) (show gc < w3.heap.size by have : gc < w2.heap.size := hgc; omega)).trans ((hb3.cell (p := ⟨gc, 0, none⟩) (show gc < _ by simp; have : gc < w2.heap.size := hgc; omega)).trans (Lib.cell?_alloc_some _ kc))
  have HB4 : Hid (Below w.heap.size w w4) := HB2.out.trans (((below_one w2 (.cells #[.int .i64 0, .int .u64 4609434218613702656, .slice (some ⟨gc, 0, none⟩) 1 capc, .slice adp 0 capp, .int .i64 3] 48)).trans ((hb3.mono (by simp)).trans (hb4.mono (by omega)))).mono HB2.out.size)
  have HE4 := hide (HT.out.env HB4.out (show w.heap.size ≤ B by have := HB2.out.size; omega))
  have hBO : w2.heap.size < B := by omega
  have HM4 := hide hmb
  have HC4 := hide hcd
  obtain ⟨o0, o1, o2, o3, o4, oz⟩ := five_of HO4.out
  clear hb3 hb4 hmb hcd hc3 kc
  have h31 := t31_is
  have hB4 := HM4.out.lt
  go_wp2_with fail
  refine (runE HM4.out HC4.out HE4.out).mono ?_
  rintro e w5 ⟨gl, capl, rfl, hm5, l0, l1, hgl, hgl5, hg5⟩
  have HO5 := hide ((hg5.block _ (lt_of_block HO4.out) (by simp; omega)).trans HO4.out)
  have HC5 := hide (HC4.out.grown hg5)
  have HE5 := hide (HE4.out.grown hg5)
  have HM5 := hide hm5
  have HG5 := hide hg5
  clear o0 o1 o2 o3 o4 oz hm5 hg5 kc4
  go_wp2_with fail
  refine (stepE HM5.out HC5.out HE5.out).mono ?_
  rintro e w6 ⟨rfl, hm6, hg6⟩
  have HO6 := hide ((hg6.block _ (lt_of_block HO5.out) (by simp; omega)).trans HO5.out)
  have l06 := hg6.cell l0 (by simp; omega)
  have l16 := hg6.cell l1 (by simp; omega)
  have HM6 := hide hm6
  have HG6 := hide (grown_trans HG5.out hg6)
  have hs6 := HG6.out.size
  clear l0 l1 hm6 hg6
  go_wp2_with fail
  refine (step_over (HM6.out.grown (grown_one w6 _ none) (by simp)) rfl).mono ?_
  rintro e w7 ⟨rfl, hb7⟩
  have hb76 : Below w6.heap.size w6 w7 := (below_one w6 _).trans (hb7.mono (by simp))
  have HM7 := hide (HM6.out.below hb76 HM6.out.lt)
  have HO7 := hide ((hb76.block _ (lt_of_block HO6.out)).trans HO6.out)
  have l0 := (hb76.cell (p := ⟨gl, 0, none⟩) (World.block_lt_of_cell? _ _ l06)).trans l06
  have l1 := (hb76.cell (p := ⟨gl, 1, none⟩) (World.block_lt_of_cell? _ _ l16)).trans l16
  have ha7 := (hb7.block w6.heap.size (by simp)).trans (heap_alloc_new w6 _)
  have a0 : w7.cell? ⟨w6.heap.size, 0, none⟩ = some (.int .i64 0) := cell_of_block ha7 rfl
  have HB7 : Hid (Below w.heap.size w w7) := HB4.out.trans (below_of_grown HG6.out (grown_below hb76 (some B)) (by have := HB2.out.size; omega) (by have := HB2.out.size; omega) HB4.out.size)
  clear hb7 hb76 l06 l16 ha7
  obtain ⟨o0, o1, -, -, -, -⟩ := five_of HO7.out
  go_wp2_with fail
  have HM8 := hide (HM7.out.grown (grown_one w7 (.cells #[.int .i64 0, .string ⟨#[]⟩] 58) none) (by simp))
  have HB8 := hide (HB7.out.trans ((below_one w7 (.cells #[.int .i64 0, .string ⟨#[]⟩] 58)).mono HB7.out.size))
  replace l0 := Lib.cell?_alloc_some (.cells #[.int .i64 0, .string ⟨#[]⟩] 58) l0
  replace l1 := Lib.cell?_alloc_some (.cells #[.int .i64 0, .string ⟨#[]⟩] 58) l1
  replace a0 := Lib.cell?_alloc_some (.cells #[.int .i64 0, .string ⟨#[]⟩] 58) a0
  replace o0 := Lib.cell?_alloc_some (.cells #[.int .i64 0, .string ⟨#[]⟩] 58) o0
  replace o1 := Lib.cell?_alloc_some (.cells #[.int .i64 0, .string ⟨#[]⟩] 58) o1
  generalize w7.alloc (.cells #[.int .i64 0, .string ⟨#[]⟩] 58) = w7b at *
  have HMd := hide HM8.out.drew
  have HOv := hide (overE HMd.out)
  have HDo := hide (doneE HMd.out)
  have HPl := hide (placeE HMd.out)
  have HRg := hide (regE HMd.out)
  have HRe := hide (resultE HMd.out)
  simp only [List.append_eq, List.cons_append, List.nil_append]
  clear HX HT HO4 HO5 HO6 HO7 HC4 HC5 HE4 HE5 HM4 HM5 HM6 HM7 HG5 HG6 HB2 HB4 HB7
  go_region_held3 (fun w' => w'.cell? ⟨gl, 0, none⟩ = some (.int .i64 1) ∧ w'.cell? ⟨gl, 1, none⟩ = some (.string Im.t31) ∧ w'.cell? ⟨w6.heap.size, 0, none⟩ = some (.int .i64 0) ∧ w'.cell? ⟨w2.heap.size, 0, none⟩ = some (.int .i64 0) ∧ w'.cell? ⟨w2.heap.size, 1, none⟩ = some (.int .u64 4609434218613702656)) (first | exact ⟨l0, l1, a0, o0, o1⟩ | exact ⟨m0, m1, m2, m3, m4⟩) (first
    | (go_at_call 20; refine HOv.out.mono ?_; rintro e _ ⟨rfl, rfl⟩)
    | (go_at_call 21; refine HDo.out.mono ?_; rintro e _ ⟨rfl, rfl⟩)
    | (go_at_call 28; refine HPl.out.mono ?_; rintro e _ ⟨rfl, rfl⟩)
    | (go_at_call 24; refine HRg.out.mono ?_; rintro e _ ⟨rfl, rfl⟩)
    | (go_at_call 25; refine HRe.out.mono ?_; rintro e w8 ⟨rfl, hb8'⟩; have hb8 := below_undrew hb8'; have m0 := (hb8.cell (p := ⟨gl, 0, none⟩) (World.block_lt_of_cell? _ _ l0)).trans l0; have m1 := (hb8.cell (p := ⟨gl, 1, none⟩) (World.block_lt_of_cell? _ _ l1)).trans l1; have m2 := (hb8.cell (p := ⟨w6.heap.size, 0, none⟩) (World.block_lt_of_cell? _ _ a0)).trans a0; have m3 := (hb8.cell (p := ⟨w2.heap.size, 0, none⟩) (World.block_lt_of_cell? _ _ o0)).trans o0; have m4 := (hb8.cell (p := ⟨w2.heap.size, 1, none⟩) (World.block_lt_of_cell? _ _ o1)).trans o1))
  go_wp2_with fail
  go_ret
  exact ⟨rfl, HB8.out.trans (hb8.mono HB8.out.size)⟩
end Go.Proofs.YthjngodkpldpfaaGreatDoor
end
