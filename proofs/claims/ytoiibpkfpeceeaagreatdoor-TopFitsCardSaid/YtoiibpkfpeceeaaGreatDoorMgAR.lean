import Derived.Test.YtoiibpkfpeceeaaGreatDoorMgAQ
import Derived.Deep.AppendLies
import Derived.Deep.RegionHeld3
import Derived.Test.YtoiibpkfpeceeaaGreatDoorMgAO
import Derived.Deep.OwnRows
import Derived.Lib.IndexLaws

section
namespace Go.Proofs.YtoiibpkfpeceeaaGreatDoor
open Go.RowKit Go.Shelf

namespace Pg
def flat (xs : List In) : List Value := xs.flatMap In.cs
def manyS (b : ByteArray) : Nat → Nat × Nat → List In → List In × (Nat × Nat)
  | 0, s, acc => (acc, s)
  | n + 1, s, acc => manyS b n (insS b s).2 (acc ++ [(insS b s).1])
def rowS (b : ByteArray) : List In × (Nat × Nat) := manyS b (listS b 64 (numS b 1024 (0, 0)).2).1 (listS b 64 (numS b 1024 (0, 0)).2).2 []
def unpackS (b : ByteArray) : (Nat × List In) × Int := if 1024 < b.size then ((0, []), 57) else if endE b ((rowS b).2.1 : Int) ((rowS b).2.2 : Int) ≠ 0 then ((0, []), 54) else if (checkE ((numS b 1024 (0, 0)).1 : Int) (rowS b).1).1 ≠ 0 then ((0, []), 54) else (((numS b 1024 (0, 0)).1, (rowS b).1), 0)
end Pg
theorem flat_len (xs : List In) : (Pg.flat xs).length = xs.length * 6 := by
  unfold Pg.flat
  induction xs with
  | nil => rfl
  | cons x r ih => rw [List.flatMap_cons, List.length_append, ih]; simp only [In.cs, List.length_cons, List.length_nil]; omega
theorem flat_snoc (xs : List In) (x : In) : Pg.flat (xs ++ [x]) = Pg.flat xs ++ [.int .i64 x.op, .int .i64 x.a, .int .i64 x.b, .int .i64 x.c, .int .i64 x.n, .int .u64 (x.k : Int)] := by
  unfold Pg.flat
  rw [List.flatMap_append]
  rfl
theorem own_grown {w w' : World} {base e size n : Nat} {v : Value} {xs : List Value} {r : Option Nat} (h : w.ownsRow base e size v n xs) (g : w.grownBy w' r) (hn : ∀ k, v.ownBlock = some k → some k ≠ r) : w'.ownsRow base e size v n xs := by
  refine ⟨h.1, ?_⟩
  rcases h.2 with h1 | ⟨k, cap, cur, rfl, hb, hg, h2⟩
  · exact .inl h1
  · exact .inr ⟨k, cap, cur, rfl, hb, (g.block k (lt_of_block hg) (hn k rfl)).trans hg, h2⟩
theorem own_below {w w' : World} {base e size n : Nat} {v : Value} {xs : List Value} (h : w.ownsRow base e size v n xs) (g : Below w.heap.size w w') : w'.ownsRow base e size v n xs := own_grown h (grown_below g none) (fun _ _ => by simp)
theorem own_cd {w : World} {base : Nat} {v : Value} {xs : List In} (h : w.ownsRow base 63 6 v xs.length (Pg.flat xs)) : Cd w v xs := by
  refine ⟨?_⟩
  rcases h.2 with ⟨rfl, h1⟩ | ⟨g, cap, cur, rfl, hb, hg, h2⟩
  · exact ⟨none, 0, by rw [h1], fun h0 => by omega⟩
  · refine ⟨_, cap, rfl, fun h0 => ⟨g, 0, rfl, lt_of_block hg, fun j hj i u hi => ?_⟩⟩
    have hi6 : i < 6 := (List.getElem?_eq_some_iff.1 hi).1
    rw [← flat_get In.cs 6 (fun _ => rfl) xs j i hj hi6] at hi
    have := h.cells (g := g) rfl (j * 6 + i) u hi
    rw [Addr.add_lit] at this
    rw [Nat.add_assoc]
    exact this
theorem Tryz.infoI : (Tryz.prog.info? 63).map (fun i => (i.zero, i.size, i.bytes)) = some (some (.agg #[.int .i64 0, .int .i64 0, .int .i64 0, .int .i64 0, .int .i64 0, .int .u64 0]), 6, 48) := by kernel_rfl
/-- a program's block -/
def Pb (w : World) (B : Nat) (fuel : Int) (v : Value) : Prop := w.heap[B]? = some (.cells #[.int .i64 fuel, v] 24 (0, 0))
theorem Pb.lt {w : World} {B : Nat} {f : Int} {v : Value} (h : Pb w B f v) : B < w.heap.size := lt_of_block h
theorem Pb.grown {w w' : World} {B : Nat} {f : Int} {v : Value} (h : Pb w B f v) {r : Option Nat} (g : w.grownBy w' r) (hn : some B ≠ r) : Pb w' B f v := (g.block B h.lt hn).trans h
theorem Pb.c0 {w : World} {B : Nat} {f : Int} {v : Value} (h : Pb w B f v) : w.cell? ⟨B, 0, none⟩ = some (.int .i64 f) := by unfold Pb at h; simp [World.cell?, h]
theorem Pb.c1 {w : World} {B : Nat} {f : Int} {v : Value} (h : Pb w B f v) : w.cell? ⟨B, 1, none⟩ = some v := by unfold Pb at h; simp [World.cell?, h]
theorem Pb.z {w : World} {B : Nat} {f : Int} {v : Value} (h : Pb w B f v) (k : Nat) : w.frozen? ⟨B, k, none⟩ = false := by unfold Pb at h; simp [World.frozen?, h]
theorem Pb.set1 {w : World} {B : Nat} {f : Int} {v : Value} (h : Pb w B f v) (u : Value) : Pb (w.setCell ⟨B, 1, none⟩ u) B f u := by
  unfold Pb World.setCell at *
  simp [Array.getElem?_modify, h]
theorem Pb.set0 {w : World} {B : Nat} {f : Int} {v : Value} (h : Pb w B f v) (g : Int) : Pb (w.setCell ⟨B, 0, none⟩ (.int .i64 g)) B g v := by
  unfold Pb World.setCell at *
  simp [Array.getElem?_modify, h]
theorem manyS_succ (b : ByteArray) (n : Nat) (s : Nat × Nat) (acc : List In) : Pg.manyS b (n + 1) s acc = Pg.manyS b n (Pg.insS b s).2 (acc ++ [(Pg.insS b s).1]) := rfl
theorem fldsS_le (b : ByteArray) : ∀ (l : List UInt8) (r : In × (Nat × Nat)), r.2.1 ≤ b.size → r.1.k < 18446744073709551616 → (Pg.fldsS b l r).2.1 ≤ b.size ∧ (Pg.fldsS b l r).1.k < 18446744073709551616
  | [], r, h, hk => ⟨h, hk⟩
  | c :: t, r, h, hk => by
    unfold Pg.fldsS
    have h1 := numS_le b 64 r.2 h
    have h2 := bitsS_le b r.2 h
    refine fldsS_le b t _ ?_ ?_
    · unfold Pg.fldS
      split
      · exact h2.2
      · exact h1.2
    · unfold Pg.fldS
      split
      · exact h2.1
      · unfold Pg.setF
        repeat' split
        all_goals first | exact hk | (show (Pg.numS b 64 r.2).1 < _; omega)
theorem insS_le (b : ByteArray) (s : Nat × Nat) (h : s.1 ≤ b.size) : (Pg.insS b s).2.1 ≤ b.size ∧ (Pg.insS b s).1.k < 18446744073709551616 := by
  unfold Pg.insS
  exact fldsS_le b _ _ (numS_le b 64 s h).2 (show (0 : Nat) < 18446744073709551616 by decide)
theorem manyS_le (b : ByteArray) : ∀ (n : Nat) (s : Nat × Nat) (acc : List In), s.1 ≤ b.size → (∀ x ∈ acc, x.k < 18446744073709551616) → (Pg.manyS b n s acc).2.1 ≤ b.size ∧ (∀ x ∈ (Pg.manyS b n s acc).1, x.k < 18446744073709551616) ∧ (Pg.manyS b n s acc).1.length = acc.length + n
  | 0, s, acc, h, ha => ⟨h, ha, rfl⟩
  | n + 1, s, acc, h, ha => by
    rw [manyS_succ]
    have h1 := insS_le b s h
    have h2 := manyS_le b n (Pg.insS b s).2 (acc ++ [(Pg.insS b s).1]) h1.1 (fun x hx => by
      rcases List.mem_append.1 hx with hx | hx
      · exact ha x hx
      · rw [List.mem_singleton.1 hx]; exact h1.2)
    refine ⟨h2.1, h2.2.1, ?_⟩
    rw [h2.2.2, List.length_append]
    simp only [List.length_cons, List.length_nil]
    omega
theorem own_slice {w : World} {base e size n : Nat} {v : Value} {xs : List Value} (h : w.ownsRow base e size v n xs) : ∃ ad cap, v = .slice ad n cap := by
  rcases h.2 with ⟨rfl, h1⟩ | ⟨g, cap, cur, rfl, _⟩
  · exact ⟨none, 0, by rw [h1]⟩
  · exact ⟨_, _, rfl⟩
/-- behind an appending to a program's code -/
theorem appended {w wr w5 w7 : World} {Z B P : Nat} {F F0 : Int} {v : Value} {xs : List In} {x : In} {o : Obj} {g cap : Nat} (hZB : Z ≠ P) (hwP : w.heap.size ≤ P)
    (HZ : Pb wr Z F0 (.slice none 0 0)) (HP : Pb wr P F v) (HG : ∀ g, v.ownBlock = some g → P < g) (hG2 : ∀ g, v.ownBlock = some g → g ≠ B ∧ g ≠ Z) (HB : Below w.heap.size w wr) (hBP : B ≠ P) (hBZ : B ≠ Z) (hwB : w.heap.size ≤ B)
    (g5 : wr.grownBy w5 (some B)) (hown : w7.ownsRow w.heap.size 63 6 (.slice (some ⟨g, 0, none⟩) (xs.length + 1) cap) (xs.length + 1) (Pg.flat xs ++ [.int .i64 x.op, .int .i64 x.a, .int .i64 x.b, .int .i64 x.c, .int .i64 x.n, .int .u64 (x.k : Int)])) (g7 : (w5.alloc o).grownBy w7 v.ownBlock) (hat : v.ownBlock = some g ∨ g = w5.heap.size + 1) :
    Pb (w7.setCell ⟨P, 1, none⟩ (.slice (some ⟨g, 0, none⟩) (xs.length + 1) cap)) Z F0 (.slice none 0 0) ∧ Pb (w7.setCell ⟨P, 1, none⟩ (.slice (some ⟨g, 0, none⟩) (xs.length + 1) cap)) P F (.slice (some ⟨g, 0, none⟩) (xs.length + 1) cap) ∧
    (w7.setCell ⟨P, 1, none⟩ (.slice (some ⟨g, 0, none⟩) (xs.length + 1) cap)).ownsRow w.heap.size 63 6 (.slice (some ⟨g, 0, none⟩) (xs.length + 1) cap) (xs ++ [x]).length (Pg.flat (xs ++ [x])) ∧
    (∀ k, (Value.slice (some ⟨g, 0, none⟩) (xs.length + 1) cap).ownBlock = some k → P < k) ∧ Below w.heap.size w (w7.setCell ⟨P, 1, none⟩ (.slice (some ⟨g, 0, none⟩) (xs.length + 1) cap)) ∧
    (∀ k, k < wr.heap.size → k ≠ B → k ≠ P → v.ownBlock ≠ some k → (w7.setCell ⟨P, 1, none⟩ (.slice (some ⟨g, 0, none⟩) (xs.length + 1) cap)).heap[k]? = wr.heap[k]?) ∧
    (∀ k o', w5.heap[k]? = some o' → k ≠ P → v.ownBlock ≠ some k → (w7.setCell ⟨P, 1, none⟩ (.slice (some ⟨g, 0, none⟩) (xs.length + 1) cap)).heap[k]? = some o') := by
  have hgP : P < g := by
    rcases hat with h | h
    · exact HG g h
    · have := g5.size; have := HP.lt; omega
  have hs := grown_set w7 P 1 (.slice (some ⟨g, 0, none⟩) (xs.length + 1) cap)
  have hkeep : ∀ k o', w5.heap[k]? = some o' → v.ownBlock ≠ some k → w7.heap[k]? = some o' := fun k o' hk hv =>
    (g7.block k (by have := lt_of_block hk; simp; omega) (fun e => hv e.symm)).trans ((Below.heap_alloc w5 o k (lt_of_block hk)).trans hk)
  have hP7 : Pb w7 P F v := hkeep P _ (HP.grown g5 (by simp; omega)) (fun e => by have := HG P e; omega)
  have hZ7 : Pb w7 Z F0 (.slice none 0 0) := hkeep Z _ (HZ.grown g5 (by simp; omega)) (fun e => (hG2 Z e).2 rfl)
  refine ⟨hZ7.grown hs (by simp; omega), hP7.set1 _, ?_, ?_, ?_, ?_, ?_⟩
  · rw [flat_snoc, List.length_append]
    exact own_grown hown hs (fun k hk => by simp only [Value.ownBlock] at hk; injection hk with hk; simp; omega)
  · intro k hk
    simp only [Value.ownBlock] at hk
    injection hk with hk
    omega
  · have h5 : Below w.heap.size w w5 := HB.grown g5 HB.size (fun k hk => by injection hk with hk; omega)
    have h6 := h5.alloc h5.size o
    have h7 : Below w.heap.size w w7 := h6.grown g7 h6.size (fun k hk => by have := HG k hk; omega)
    exact h7.setCell (p := ⟨P, 1, none⟩) hwP _
  · intro k hk hkB hkP hv
    obtain ⟨o', ho'⟩ : ∃ o', wr.heap[k]? = some o' := ⟨_, Array.getElem?_eq_getElem hk⟩
    rw [ho']
    exact (hs.block k (Nat.lt_of_lt_of_le (Nat.lt_of_lt_of_le hk g5.size) (Nat.le_trans (by simp) g7.size)) (by simp; omega)).trans (hkeep k o' ((g5.block k hk (by simp; omega)).trans ho') hv)
  · intro k o' hk hkP hv
    have h7 := hkeep k o' hk hv
    exact (hs.block k (lt_of_block h7) (by simp; omega)).trans h7
end Go.Proofs.YtoiibpkfpeceeaaGreatDoor
end

section
namespace Go.Proofs.YtoiibpkfpeceeaaGreatDoor
open Go.RowKit Go.Shelf

/-- the library's tables, and its error of numbers that are none -/
structure Libs (w : World) : Prop where
  tabs : Tabs w
  err : ∃ ev, w.cell? ⟨2, 0, none⟩ = some ev ∧ (ev = .nilIface ∨ ∃ te pe, ev = .iface te pe)
theorem Libs.below {a b : World} (h : Libs a) {n : Nat} (k : Below n a b) (hn : a.heap.size ≤ n) : Libs b := by
  obtain ⟨h1, ev, h2, h3⟩ := h
  exact ⟨h1.below k hn, ev, (k.cell (Nat.lt_of_lt_of_le (World.block_lt_of_cell? _ _ h2) hn)).trans h2, h3⟩
namespace Pg
def numP (s : ByteArray) : Nat × Bool := if 9 < s.size then (0, false) else match Lib.parseUintB 64 s.data.toList with
  | .ok u => (u, (⟨(Lib.decDigits u).toArray⟩ : ByteArray).toList == s.toList)
  | _ => (0, false)
def cutR (s : ByteArray) : ByteArray := ⟨(Lib.trimPrefix s.data.toList [114]).toArray⟩
def regP (s : ByteArray) : Nat × Bool := if Lib.hasPrefix s.data.toList [114] then ((numP (cutR s)).1, (numP (cutR s)).2 && decide ((numP (cutR s)).1 < 8)) else (0, false)
def fieldP (l : Nat) (s : ByteArray) : Nat × Bool := if l = 75 then ((parseP s).1, (parseP s).2 == 0) else if l = 78 then numP s else regP s
end Pg
theorem pu_range (M : Nat) (hM : 9999999999999999999 ≤ M) : ∀ (l : List UInt8) (acc j : Nat), acc < 10 ^ j → j + l.length ≤ 18 → Lib.parseUintM M acc l ≠ .range ∧ ∀ u, Lib.parseUintM M acc l = .ok u → u < 10 ^ (j + l.length)
  | [], acc, j, ha, _ => ⟨fun h => (by cases h), fun u h => (by cases h; simpa using ha)⟩
  | c :: r, acc, j, ha, hl => by
    rw [List.length_cons] at hl
    have hp : 10 ^ j ≤ 10 ^ 17 := Nat.pow_le_pow_right (by omega) (by omega)
    have hq : (10 : Nat) ^ 17 = 100000000000000000 := by decide
    rw [Lib.parseUintM]
    by_cases hd : 48 ≤ c.toNat ∧ c.toNat ≤ 57
    · have h1 : acc * 10 + (c.toNat - 48) < 10 ^ (j + 1) := by rw [Nat.pow_succ]; omega
      rw [if_pos hd, if_neg (by omega), if_neg (by omega), List.length_cons, show j + (r.length + 1) = j + 1 + r.length by omega]
      exact pu_range M hM r _ (j + 1) h1 (by omega)
    · rw [if_neg hd]
      exact ⟨fun h => (by cases h), fun u h => by cases h⟩
theorem puB_range (s : ByteArray) (h : s.size ≤ 9) : Lib.parseUintB 64 s.data.toList ≠ .range ∧ ∀ u, Lib.parseUintB 64 s.data.toList = .ok u → u < 1000000000 := by
  have hl : s.data.toList.length = s.size := by rw [Array.length_toList]; rfl
  unfold Lib.parseUintB
  split
  · exact ⟨fun h => (by cases h), fun u h => by cases h⟩
  · have h1 := pu_range (2 ^ 64 - 1) (by decide) s.data.toList 0 0 (by decide) (by omega)
    refine ⟨h1.1, fun u hu => Nat.lt_of_lt_of_le (h1.2 u hu) ?_⟩
    calc 10 ^ (0 + s.data.toList.length) ≤ 10 ^ 9 := Nat.pow_le_pow_right (by decide) (by omega)
      _ = 1000000000 := by decide
theorem numP_lt (s : ByteArray) : (Pg.numP s).1 < 1000000000 := by
  unfold Pg.numP
  split
  · exact (by decide : (0 : Nat) < 1000000000)
  · rename_i h
    have h1 := (puB_range s (by omega)).2
    cases hp : Lib.parseUintB 64 s.data.toList with
    | ok u => exact h1 u hp
    | «syntax» => exact (by decide : (0 : Nat) < 1000000000)
    | range => exact (by decide : (0 : Nat) < 1000000000)
set_option maxHeartbeats 1000000 in
theorem parseNumber_any (s : ByteArray) (w : World) (hT : Libs w) :
    Calls Tryz.prog 53 #[.string s] w fun e w' => e = .returned (.tuple #[.int .u64 ((Pg.numP s).1 : Int), .bool (Pg.numP s).2]) ∧ Below w.heap.size w w' := by
  unfold Pg.numP
  by_cases hs : 9 < s.size
  · rw [if_pos hs]
    go_enter Tryz.func53, Tryz.ntmps53
    go_wp2
    go_ret2
    exact ⟨rfl, Below.refl _ _⟩
  rw [if_neg hs]
  have hb := puB_range s (by omega)
  have hsz : decide ((9 : Int) < (s.size : Int)) = false := by simp; omega
  cases hp : Lib.parseUintB 64 s.data.toList with
  | ok u =>
    have hu := hb.2 u hp
    have HU := hide (Tryz.strconv_ParseUint_10_at64_ok s (by omega) u hp w)
    have HF := hide (fun w1 (h1 : Libs w1) => formatUint_any u (by omega) w1 h1.tabs.t10)
    have HT := hide hT
    clear hp hb hT hs
    go_enter Tryz.func53, Tryz.ntmps53
    go_wp2_with fail
    refine HU.out.mono ?_
    rintro e w1 ⟨rfl, hw⟩
    have HB1 : Hid (Below w.heap.size w w1) := by
      rcases hw with rfl | rfl
      · exact Below.refl _ _
      · exact bytes_below _ _ _
    clear hw HU
    go_wp2_with fail
    refine (HF.out w1 (HT.out.below HB1.out (Nat.le_refl _))).mono ?_
    rintro e w2 ⟨rfl, hb2⟩
    have HB2 : Hid (Below w.heap.size w w2) := HB1.out.trans (hb2.mono HB1.out.size)
    generalize hD : (⟨(Lib.decDigits u).toArray⟩ : ByteArray) = D at *
    have HD := hide hD
    clear hb2 hD
    go_wp2
    go_ret2
    exact ⟨by rw [HD.out]; rfl, HB2.out⟩
  | range => exact absurd hp hb.1
  | «syntax» =>
    obtain ⟨_, ev, hv, hev⟩ := hT
    have HU := hide (Any.strconv_ParseUint_10_at64_syntax Tryz.laysPu14 s (by omega) hp ev w hv hev)
    clear hp hb hs hv hev
    go_enter Tryz.func53, Tryz.ntmps53
    go_wp2_with fail
    refine HU.out.mono ?_
    rintro e w1 ⟨N, rfl, _, _, hb1⟩
    have HB1 := hide hb1
    clear hb1 HU
    go_wp2
    go_ret2
    exact ⟨rfl, HB1.out⟩
set_option maxHeartbeats 1000000 in
theorem parseRegister_any (s : ByteArray) (w : World) (hT : Libs w) :
    Calls Tryz.prog 114 #[.string s] w fun e w' => e = .returned (.tuple #[.int .u64 ((Pg.regP s).1 : Int), .bool (Pg.regP s).2]) ∧ Below w.heap.size w w' := by
  have HC : Hid (Calls Tryz.prog 52 #[.string s, .string ⟨#[114]⟩] w fun e w' => e = .returned (.tuple #[.string (Pg.cutR s), .bool (Lib.hasPrefix s.data.toList [114])]) ∧ w' = w) := Tryz.strings_CutPrefix s ⟨#[114]⟩ w
  have HN := hide (parseNumber_any (Pg.cutR s) w hT)
  unfold Pg.regP
  have hlt := numP_lt (Pg.cutR s)
  generalize Pg.numP (Pg.cutR s) = r at *
  obtain ⟨u, ok⟩ := r
  generalize Pg.cutR s = c at *
  generalize Lib.hasPrefix s.data.toList [114] = hp at *
  clear hT
  cases hp with
  | false =>
    go_enter Tryz.func114, Tryz.ntmps114
    go_wp2_with fail
    refine HC.out.mono ?_
    rintro e w1 ⟨rfl, rfl⟩
    go_wp2
    go_ret2
    exact ⟨rfl, Below.refl _ _⟩
  | true =>
    cases ok with
    | false =>
      go_enter Tryz.func114, Tryz.ntmps114
      go_wp2_with fail
      refine HC.out.mono ?_
      rintro e w1 ⟨rfl, rfl⟩
      go_wp2_with fail
      refine HN.out.mono ?_
      rintro e w2 ⟨rfl, hb2⟩
      have HB2 := hide hb2
      clear hb2
      go_wp2
      go_ret2
      exact ⟨rfl, HB2.out⟩
    | true =>
      go_enter Tryz.func114, Tryz.ntmps114
      go_wp2_with fail
      refine HC.out.mono ?_
      rintro e w1 ⟨rfl, rfl⟩
      go_wp2_with fail
      refine HN.out.mono ?_
      rintro e w2 ⟨rfl, hb2⟩
      have HB2 := hide hb2
      clear hb2
      go_wp2
      go_ret2
      refine ⟨?_, HB2.out⟩
      show Ending.returned (.tuple #[.int .u64 (u : Int), .bool (decide ((u : Int) < 8))]) = _
      rw [show decide ((u : Int) < 8) = decide (u < 8) from decide_eq_decide.2 (by omega)]
set_option maxHeartbeats 1000000 in
theorem parseField_any (l : Nat) (s : ByteArray) (hm : s.size ≤ 9223372036854775807) (w : World) (hT : Libs w) :
    Calls Tryz.prog 56 #[.int .i32 (l : Int), .string s] w fun e w' => e = .returned (.tuple #[.int .u64 ((Pg.fieldP l s).1 : Int), .bool (Pg.fieldP l s).2]) ∧ Below w.heap.size w w' := by
  have HN := hide (parseNumber_any s w hT)
  have HR := hide (parseRegister_any s w hT)
  have HP := hide (parse_any s hm w)
  clear hT
  unfold Pg.fieldP
  generalize Pg.numP s = n at *
  generalize Pg.regP s = r at *
  generalize parseP s = p at *
  obtain ⟨n1, n2⟩ := n
  obtain ⟨r1, r2⟩ := r
  obtain ⟨p1, p2⟩ := p
  by_cases h1 : l = 75
  · subst h1
    rw [if_pos rfl]
    go_enter Tryz.func56, Tryz.ntmps56
    go_wp2_with (go_at_call 113; refine HP.out.mono ?_; rintro e w' ⟨rfl, hb⟩)
    go_ret2
    exact ⟨rfl, hb⟩
  rw [if_neg h1]
  have b1 : ((l : Int) == 75) = false := by simp; omega
  by_cases h2 : l = 78
  · subst h2
    rw [if_pos rfl]
    go_enter Tryz.func56, Tryz.ntmps56
    go_wp2_with (go_at_call 53; refine HN.out.mono ?_; rintro e w' ⟨rfl, hb⟩)
    go_ret2
    exact ⟨rfl, hb⟩
  rw [if_neg h2]
  have b2 : ((l : Int) == 78) = false := by simp; omega
  go_enter Tryz.func56, Tryz.ntmps56
  go_wp2_with (go_at_call 114; refine HR.out.mono ?_; rintro e w' ⟨rfl, hb⟩)
  go_ret2
  exact ⟨rfl, hb⟩
end Go.Proofs.YtoiibpkfpeceeaaGreatDoor
end

section
namespace Go.Proofs.YtoiibpkfpeceeaaGreatDoor
open Go.RowKit Go.Shelf

namespace Pg
/-- what stands between blanks, at most so many cuts -/
def splitW : Nat → ByteArray → List ByteArray
  | 0, s => [s]
  | n + 1, s => if Lib.indexByte s.data.toList 32 < 0 then [s] else s.extract 0 (Lib.indexByte s.data.toList 32).toNat :: splitW n (s.extract ((Lib.indexByte s.data.toList 32).toNat + 1) s.size)
def cellsW (ws : List ByteArray) (N : Nat) : Array Value := (ws.map Value.string ++ List.replicate (N - ws.length) (Value.string ⟨#[]⟩)).toArray
end Pg
theorem splitW_pos : ∀ (n : Nat) (s : ByteArray), 1 ≤ (Pg.splitW n s).length ∧ (Pg.splitW n s).length ≤ n + 1
  | 0, s => ⟨Nat.le_refl _, Nat.le_refl _⟩
  | n + 1, s => by
    unfold Pg.splitW
    split
    · exact ⟨Nat.le_refl _, by simp⟩
    · have := splitW_pos n (s.extract ((Lib.indexByte s.data.toList 32).toNat + 1) s.size)
      simp only [List.length_cons]
      omega
theorem idx_bound (s : ByteArray) (c : UInt8) (h : 0 ≤ Lib.indexByte s.data.toList c) : (Lib.indexByte s.data.toList c).toNat < s.size := by
  have h1 := (Lib.indexByte_some (l := s.data.toList) (c := c) (o := (Lib.indexByte s.data.toList c).toNat) (by omega)).1
  have := (List.getElem?_eq_some_iff.1 h1).1
  rwa [Array.length_toList] at this
theorem splitW_more : ∀ (n m : Nat) (s : ByteArray), s.size ≤ n → n ≤ m → Pg.splitW n s = Pg.splitW m s
  | 0, 0, s, _, _ => rfl
  | 0, m + 1, s, h, _ => by
    have hi : Lib.indexByte s.data.toList 32 < 0 := by
      rcases Int.lt_or_le (Lib.indexByte s.data.toList 32) 0 with h1 | h1
      · exact h1
      · have := idx_bound s 32 h1; omega
    show [s] = if _ then _ else _
    rw [if_pos hi]
  | n + 1, 0, s, _, h => by omega
  | n + 1, m + 1, s, h, hm => by
    unfold Pg.splitW
    split
    · rfl
    · rename_i h1
      have := idx_bound s 32 (by omega)
      rw [splitW_more n m _ (by rw [ByteArray.size_extract]; omega) (by omega)]
theorem cellsW_size (ws : List ByteArray) (N : Nat) (h : ws.length ≤ N) : (Pg.cellsW ws N).size = N := by
  unfold Pg.cellsW
  simp
  omega
theorem cellsW_set (ws : List ByteArray) (N : Nat) (h : ws.length < N) (x : ByteArray) : (Pg.cellsW ws N).setIfInBounds ws.length (.string x) = Pg.cellsW (ws ++ [x]) N := by
  unfold Pg.cellsW
  rw [List.setIfInBounds_toArray]
  congr 1
  rw [List.set_append_right _ _ (by simp)]
  obtain ⟨k, hk⟩ : ∃ k, N - ws.length = k + 1 := ⟨N - ws.length - 1, by omega⟩
  rw [hk, List.length_map, Nat.sub_self, List.replicate_succ, List.set_cons_zero, List.length_append, List.length_singleton, show N - (ws.length + 1) = k by omega, List.map_append, List.append_assoc]
  rfl
theorem cellsW_made (N : Nat) : madeCells #[Value.string ByteArray.empty] N = Pg.cellsW [] N := by
  apply Array.ext
  · rw [size_madeCells, cellsW_size [] N (Nat.zero_le _)]
  · intro i h1 h2
    simp [madeCells, Pg.cellsW, Nat.mod_one]
    rfl
theorem cellsW_at (ws : List ByteArray) (N j : Nat) (h : ws.length ≤ N) (hj : j < N) : ∃ t, (Pg.cellsW ws N)[j]? = some (.string t) := by
  unfold Pg.cellsW
  rw [List.getElem?_toArray]
  by_cases h1 : j < ws.length
  · rw [List.getElem?_append_left (by simpa using h1), List.getElem?_map, List.getElem?_eq_getElem h1]; exact ⟨_, rfl⟩
  · rw [List.getElem?_append_right (by simpa using h1), List.getElem?_replicate, if_pos (by simp; omega)]; exact ⟨_, rfl⟩
theorem cellsW_word (ws : List ByteArray) (N j : Nat) (hj : j < ws.length) : (Pg.cellsW ws N)[j]? = some (.string ws[j]!) := by
  unfold Pg.cellsW
  rw [List.getElem?_toArray, List.getElem?_append_left (by simpa using hj), List.getElem?_map, List.getElem?_eq_getElem hj, getElem!_pos ws j hj]
  rfl
/-- a row of words -/
def Wb (w : World) (G : Nat) (ws : List ByteArray) (N : Nat) : Prop := w.heap[G]? = some (.cells (Pg.cellsW ws N) 9 (0, 0))
theorem Wb.cell {w : World} {G N j : Nat} {ws : List ByteArray} (h : Wb w G ws N) (hl : ws.length ≤ N) (hj : j < N) : ∃ t, w.cell? ⟨G, j, none⟩ = some (.string t) := by
  obtain ⟨t, ht⟩ := cellsW_at ws N j hl hj
  unfold Wb at h
  exact ⟨t, by simp [World.cell?, h, ht]⟩
theorem Wb.word {w : World} {G N j : Nat} {ws : List ByteArray} (h : Wb w G ws N) (hj : j < ws.length) : w.cell? ⟨G, j, none⟩ = some (.string ws[j]!) := by
  have ht := cellsW_word ws N j hj
  unfold Wb at h
  simp only [World.cell?, h]
  exact ht
theorem Wb.z {w : World} {G N : Nat} {ws : List ByteArray} (h : Wb w G ws N) (k : Nat) : w.frozen? ⟨G, k, none⟩ = false := by unfold Wb at h; simp [World.frozen?, h]
theorem Wb.set {w : World} {G N : Nat} {ws : List ByteArray} (h : Wb w G ws N) (hl : ws.length < N) (x : ByteArray) : Wb (w.setCell ⟨G, ws.length, none⟩ (.string x)) G (ws ++ [x]) N := by
  have := cellsW_set ws N hl x
  unfold Wb World.setCell at *
  simp [Array.getElem?_modify, h, this]
theorem Tryz.infoS : (Tryz.prog.info? 9).map (fun i => (i.zero, i.size, i.bytes)) = some (some (.string ByteArray.empty), 1, 16) := by kernel_rfl
set_option maxRecDepth 10000 in
set_option maxHeartbeats 1000000 in
theorem genSplit_any (s : ByteArray) (hs : s.size ≤ 4611686018427387904) (w : World) :
    Calls Tryz.prog 111 #[.string s, .string ⟨#[32]⟩, .int .i64 0, .int .i64 5] w fun e w' => ∃ N, e = .returned (.slice (some ⟨w.heap.size, 0, none⟩) (Pg.splitW 4 s).length N) ∧ Wb w' w.heap.size (Pg.splitW 4 s) N ∧ Below w.heap.size w w' := by
  have hmk := fun n (h : n ≤ 5) w => run_make_row' (P := Tryz.prog) 28 9 (.string ByteArray.empty) 16 Tryz.underlying28 Tryz.infoS rfl .i64 .i64 n (by omega) (by omega) w
  obtain ⟨N, hN⟩ : ∃ N, N = min 5 (s.size + 1) := ⟨_, rfl⟩
  have HSp : Hid (Pg.splitW 4 s = Pg.splitW (N - 1) s) := by
    show _ = _
    rcases Nat.lt_or_ge s.size 4 with h | h
    · rw [show N - 1 = s.size by omega, splitW_more s.size 4 s (Nat.le_refl _) (by omega)]
    · rw [show N - 1 = 4 by omega]
  have hmin : min (5 : Int) ((s.size : Int) + 1) = (N : Int) := by omega
  have hN1 : 1 ≤ N := by omega
  have hN5 : N ≤ 5 := by omega
  have hm := hmk N hN5
  rw [cellsW_made N] at hm
  have HNs : Hid (N = min 5 (s.size + 1)) := hN
  clear hmk hN
  go_enter Tryz.func111, Tryz.ntmps111
  go_wp2_with fail
  have HW0 : Hid (Wb (w.alloc (.cells (Pg.cellsW [] N) 9)) w.heap.size [] N) := heap_alloc_new w _
  have HB0 := hide (below_one w (.cells (Pg.cellsW [] N) 9))
  generalize w.alloc (.cells (Pg.cellsW [] N) 9) = W0 at *
  go_loopw [0, 10] (fun s0 s10 wr => ∃ (ws : List ByteArray) (t : ByteArray), ws.length ≤ N - 1 ∧ s0 = .string t ∧ s10 = .int .i64 (ws.length : Int) ∧ t.size ≤ s.size ∧ Hid (Wb wr w.heap.size ws N) ∧ Hid (Below w.heap.size w wr) ∧ Hid (Pg.splitW (N - 1) s = ws ++ Pg.splitW (N - 1 - ws.length) t)) (fun _ s10 _ => N - (intOf s10).toNat)
  case atStart => exact ⟨[], s, Nat.zero_le _, rfl, rfl, Nat.le_refl _, HW0, HB0, rfl⟩
  case round =>
    obtain ⟨ws, t, hws, rfl, rfl, hts, HW, HB, HE⟩ := hrel
    clear HW0 HB0 hm hmin
    have hz := HW.out.z
    obtain ⟨t0, hcell⟩ := HW.out.cell (j := ws.length) (by omega) (by omega)
    have hGl : w.heap.size < wr.heap.size := lt_of_block HW.out
    have HIx := hide (Tryz.strings_Index_one t 32 wr)
    by_cases hlt : ws.length < N - 1
    · have hli : (ws.length : Int) < (N : Int) - 1 := by omega
      obtain ⟨k, hk⟩ : ∃ k, N - 1 - ws.length = k + 1 := ⟨N - 1 - ws.length - 1, by omega⟩
      have hE := HE.out
      rw [hk, Pg.splitW] at hE
      by_cases hneg : Lib.indexByte t.data.toList 32 < 0
      · rw [if_pos hneg] at hE
        have HE2 := hide hE
        generalize Lib.indexByte t.data.toList 32 = m at *
        clear hE hk HE
        go_wp2_with (go_at_call 146; refine HIx.out.mono ?_; rintro e w' ⟨rfl, rfl⟩)
        go_ret
        exact ⟨N, by rw [HSp.out, HE2.out, List.length_append]; rfl, by rw [HSp.out, HE2.out]; exact HW.out.set (by omega) t, HB.out.setCell (by simp) _⟩
      · rw [if_neg hneg] at hE
        have hib := idx_bound t 32 (by omega)
        obtain ⟨m, hm⟩ : ∃ m : Nat, Lib.indexByte t.data.toList 32 = (m : Int) := ⟨(Lib.indexByte t.data.toList 32).toNat, by omega⟩
        rw [hm] at HIx hE hib hneg
        simp only [Int.toNat_natCast] at hE hib
        have HE2 := hide hE
        clear hE HE hm hneg
        go_wp2_with (go_at_call 146; refine HIx.out.mono ?_; rintro e w' ⟨rfl, rfl⟩)
        go_roundw
        case rel =>
          refine ⟨ws ++ [t.extract 0 m], t.extract (m + 1) t.size, by rw [List.length_append]; simp only [List.length_singleton]; omega, rfl, by rw [List.length_append]; go_num, by rw [ByteArray.size_extract]; omega, HW.out.set (by omega) _, HB.out.setCell (by simp) _, ?_⟩
          show _ = _
          rw [HE2.out, List.append_assoc, List.length_append, List.length_singleton, show N - 1 - (ws.length + 1) = k by omega]
          rfl
        case measure => simp [intOf]; omega
    · have hli : ¬ (ws.length : Int) < (N : Int) - 1 := by omega
      have hE := HE.out
      rw [show N - 1 - ws.length = 0 by omega, Pg.splitW] at hE
      have HE2 := hide hE
      clear hE HE
      go_wp2
      go_ret
      exact ⟨N, by rw [HSp.out, HE2.out, List.length_append]; rfl, by rw [HSp.out, HE2.out]; exact HW.out.set (by omega) t, HB.out.setCell (by simp) _⟩
set_option maxHeartbeats 1000000 in
theorem splitN_any (s : ByteArray) (hs : s.size ≤ 4611686018427387904) (w : World) :
    Calls Tryz.prog 54 #[.string s, .string ⟨#[32]⟩, .int .i64 5] w fun e w' => ∃ N, e = .returned (.slice (some ⟨w.heap.size, 0, none⟩) (Pg.splitW 4 s).length N) ∧ Wb w' w.heap.size (Pg.splitW 4 s) N ∧ Below w.heap.size w w' := by
  have HG := hide (genSplit_any s hs w)
  generalize Pg.splitW 4 s = ws at *
  go_enter Tryz.func54, Tryz.ntmps54
  go_wp2_with fail
  refine HG.out.mono ?_
  rintro e w1 ⟨N, rfl, hW, hb⟩
  have HW := hide hW
  have HB := hide hb
  clear hW hb
  go_wp2
  go_ret
  exact ⟨N, rfl, HW.out, HB.out⟩
end Go.Proofs.YtoiibpkfpeceeaaGreatDoor
end

section
namespace Go.Proofs.YtoiibpkfpeceeaaGreatDoor
open Go.RowKit Go.Shelf

namespace Pg
def goP (ws : List ByteArray) : List UInt8 → Nat → In → In × Bool
  | [], _, x => (x, true)
  | l :: r, i, x => if (fieldP l.toNat ws[1 + i]!).2 = false then (default, false) else goP ws r (i + 1) (setF x l.toNat (fieldP l.toNat ws[1 + i]!).1)
def insP (line : ByteArray) : In × Bool := if (named (splitW 4 line)[0]!).2 = false ∨ (splitW 4 line).length ≠ 1 + (named (splitW 4 line)[0]!).1.flds.size then (default, false) else goP (splitW 4 line) (named (splitW 4 line)[0]!).1.flds.data.toList 0 ⟨(named (splitW 4 line)[0]!).1.op, 0, 0, 0, 0, 0⟩
theorem named_ok (s : ByteArray) : (named s).1.flds.size ≤ 3 ∧ (∀ c ∈ (named s).1.flds.data.toList, c.toNat < 128) ∧ (named s).1.word.size ≤ 5 := by
  have h := find_ok (fun x => x.word.toList == s.toList)
  unfold okF at h
  simp only [Bool.and_eq_true, decide_eq_true_eq, List.all_eq_true] at h
  exact ⟨h.1.1, h.1.2, h.2⟩
theorem splitW_size : ∀ (n : Nat) (s : ByteArray), ∀ x ∈ splitW n s, x.size ≤ s.size
  | 0, s, x, h => by rw [List.mem_singleton.1 h]; exact Nat.le_refl _
  | n + 1, s, x, h => by
    unfold splitW at h
    split at h
    · rw [List.mem_singleton.1 h]; exact Nat.le_refl _
    · rcases List.mem_cons.1 h with rfl | h
      · rw [ByteArray.size_extract]; omega
      · have := splitW_size n _ x h
        rw [ByteArray.size_extract] at this
        omega
end Pg
theorem fieldP_lt (l : Nat) (s : ByteArray) : l = 75 ∨ (Pg.fieldP l s).1 < 4294967296 := by
  by_cases h : l = 75
  · exact .inl h
  · refine .inr ?_
    unfold Pg.fieldP
    rw [if_neg h]
    split
    · have := numP_lt s; omega
    · unfold Pg.regP
      split
      · have := numP_lt (Pg.cutR s); show (Pg.numP (Pg.cutR s)).1 < _; omega
      · exact (by decide : (0 : Nat) < 4294967296)
theorem goP_drop (ws : List ByteArray) (sf : ByteArray) (k : Nat) (h : k < sf.size) (x : In) : Pg.goP ws (sf.data.toList.drop k) k x = if (Pg.fieldP (sf[k]'h).toNat ws[1 + k]!).2 = false then (default, false) else Pg.goP ws (sf.data.toList.drop (k + 1)) (k + 1) (Pg.setF x (sf[k]'h).toNat (Pg.fieldP (sf[k]'h).toNat ws[1 + k]!).1) := by
  rw [at_toList sf k h]
  rfl
theorem Wb.below {w w' : World} {G N n : Nat} {ws : List ByteArray} (h : Wb w G ws N) (hb : Below n w w') (hn : G < n) : Wb w' G ws N := (hb.block G hn).trans h
theorem Wb.grown {w w' : World} {G N : Nat} {ws : List ByteArray} (h : Wb w G ws N) {r : Option Nat} (g : w.grownBy w' r) (hn : some G ≠ r) : Wb w' G ws N := (g.block G (lt_of_block h) hn).trans h
set_option maxRecDepth 10000 in
set_option maxHeartbeats 1000000 in
theorem parseIns_any (line : ByteArray) (hs : line.size ≤ 4611686018427387904) (w : World) (hT : Libs w) :
    Calls Tryz.prog 33 #[.string line] w fun e w' => e = .returned (.tuple #[.agg #[.int .i64 (Pg.insP line).1.op, .int .i64 (Pg.insP line).1.a, .int .i64 (Pg.insP line).1.b, .int .i64 (Pg.insP line).1.c, .int .i64 (Pg.insP line).1.n, .int .u64 ((Pg.insP line).1.k : Int)], .bool (Pg.insP line).2]) ∧ Below w.heap.size w w' := by
  obtain ⟨R, hRes⟩ : ∃ R, Pg.insP line = R := ⟨_, rfl⟩
  rw [hRes]
  unfold Pg.insP at hRes
  have HSp := hide (splitN_any line hs)
  have hl := splitW_pos 4 line
  have hsz := Pg.splitW_size 4 line
  generalize Pg.splitW 4 line = ws at *
  obtain ⟨z0, hz0⟩ : ∃ z, ws[0]! = z := ⟨_, rfl⟩
  rw [hz0] at hRes
  have HZ0 := hide hz0
  clear hz0
  have HNm := hide (shapeNamed_any z0)
  have HO := hide (Pg.named_ok z0)
  generalize Pg.named z0 = sh at *
  obtain ⟨⟨so, sw, sf⟩, sb⟩ := sh
  simp only [] at hRes
  have HRes := hide hRes
  have HSz := hide hsz
  have HT := hide hT
  clear hRes hsz hT
  go_enter Tryz.func33, Tryz.ntmps33
  go_wp2_with fail
  refine (HSp.out _).mono ?_
  rintro e w1 ⟨N, rfl, hW1, hb1⟩
  rw [World.size_alloc] at hW1 hb1
  simp only [World.size_alloc]
  have hI1 : Ib w1 w.heap.size ⟨0, 0, 0, 0, 0, 0⟩ := (hb1.block w.heap.size (by omega)).trans (heap_alloc_new w _)
  have HI1 := hide hI1
  have HW1 := hide hW1
  have HB1 : Hid (Below w.heap.size w w1) := (below_one w _).trans (hb1.mono (by omega))
  have hw0 : w1.cell? ⟨w.heap.size + 1, 0, none⟩ = some (.string z0) := by have := hW1.word (j := 0) (by omega); rw [HZ0.out] at this; exact this
  have hGl : w.heap.size + 1 < w1.heap.size := lt_of_block hW1
  have hli : (0 : Int) < (ws.length : Int) := by omega
  clear hI1 hW1 hb1 HSp
  go_wp2_with fail
  refine (HNm.out w1).mono ?_
  rintro e w2 ⟨rfl, hb2⟩
  have HI2 := hide (HI1.out.grown (grown_below hb2 none) (by simp))
  have HW2 := hide (HW1.out.below hb2 hGl)
  have HB2 : Hid (Below w.heap.size w w2) := HB1.out.trans (hb2.mono HB1.out.size)
  have hz2 : w1.heap.size ≤ w2.heap.size := hb2.size
  clear HI1 HW1 HB1 hb2 HNm hw0
  have HS3 : Hid ((w2.alloc (.cells #[.int .i64 so, .string sw, .string sf] 111)).heap[w2.heap.size]? = some (.cells #[.int .i64 so, .string sw, .string sf] 111 (0, 0))) := heap_alloc_new w2 _
  have HI3 := hide (HI2.out.grown (grown_one w2 (.cells #[.int .i64 so, .string sw, .string sf] 111) none) (by simp))
  have HW3 := hide (HW2.out.grown (grown_one w2 (.cells #[.int .i64 so, .string sw, .string sf] 111) none) (by simp))
  have HB3 := hide (HB2.out.alloc HB2.out.size (.cells #[.int .i64 so, .string sw, .string sf] 111))
  have HZ3 : Hid ((w2.alloc (.cells #[.int .i64 so, .string sw, .string sf] 111)).heap.size = w2.heap.size + 1) := World.size_alloc _ _
  clear HI2 HW2 HB2
  by_cases hbad : sb = false ∨ ws.length ≠ 1 + sf.size
  · rw [if_pos hbad] at HRes
    obtain ⟨⟨x0, x1, x2, x3, x4, x5⟩, xz⟩ := six_of HI3.out
    obtain ⟨⟨y0, y1, y2⟩, yz⟩ := three_of HS3.out
    have hne : w2.heap.size ≠ w.heap.size := by omega
    cases sb with
    | false =>
      go_wp2
      refine bodyPost_ret (by rw [results_cell_tmp rfl]; go_simp; rfl) rfl ?_
      rw [← HRes.out]
      exact ⟨rfl, (((((HB3.out.setCell (by simp) _).setCell (by simp) _).setCell (by simp) _).setCell (by simp) _).setCell (by simp) _).setCell (by simp) _⟩
    | true =>
      have hnl : ((ws.length : Int) != 1 + (sf.size : Int)) = true := by
        rcases hbad with h | h
        · cases h
        · rw [bne_iff_ne]; omega
      have hsfl : sf.size ≤ 3 := HO.out.1
      go_wp2
      refine bodyPost_ret (by rw [results_cell_tmp rfl]; go_simp; rfl) rfl ?_
      rw [← HRes.out]
      exact ⟨rfl, (((((HB3.out.setCell (by simp) _).setCell (by simp) _).setCell (by simp) _).setCell (by simp) _).setCell (by simp) _).setCell (by simp) _⟩
  · rw [if_neg hbad] at HRes
    have hsb : sb = true := by cases sb <;> simp_all
    subst hsb
    have hwl : ws.length = 1 + sf.size := by
      rcases Nat.lt_trichotomy ws.length (1 + sf.size) with h | h | h
      · exact absurd (.inr (by omega)) hbad
      · exact h
      · exact absurd (.inr (by omega)) hbad
    have hnl : ((ws.length : Int) != 1 + (sf.size : Int)) = false := by rw [bne_eq_false_iff_eq]; omega
    have hsfl : sf.size ≤ 3 := HO.out.1
    have HWL := hide hwl
    obtain ⟨⟨y0, y1, y2⟩, yz⟩ := three_of HS3.out
    clear hbad hwl
    have HI4 : Hid (Ib (((w2.alloc (.cells #[.int .i64 so, .string sw, .string sf] 111)).alloc (.cells #[.int .i64 so, .int .i64 0, .int .i64 0, .int .i64 0, .int .i64 0, .int .u64 0] 63)).iter sf 0) (w2.heap.size + 1) ⟨so, 0, 0, 0, 0, 0⟩) := by
      have h1 : Ib ((w2.alloc (.cells #[.int .i64 so, .string sw, .string sf] 111)).alloc (.cells #[.int .i64 so, .int .i64 0, .int .i64 0, .int .i64 0, .int .i64 0, .int .u64 0] 63)) (w2.heap.size + 1) ⟨so, 0, 0, 0, 0, 0⟩ := by
        have := heap_alloc_new (w2.alloc (.cells #[.int .i64 so, .string sw, .string sf] 111)) (.cells #[.int .i64 so, .int .i64 0, .int .i64 0, .int .i64 0, .int .i64 0, .int .u64 0] 63)
        rw [World.size_alloc] at this
        exact this
      exact h1.grown (grown_one _ (.stringIter sf 0) none) (by simp)
    have HZ4 : Hid (Ib (((w2.alloc (.cells #[.int .i64 so, .string sw, .string sf] 111)).alloc (.cells #[.int .i64 so, .int .i64 0, .int .i64 0, .int .i64 0, .int .i64 0, .int .u64 0] 63)).iter sf 0) w.heap.size ⟨0, 0, 0, 0, 0, 0⟩) := (HI3.out.grown (grown_one _ (.cells #[.int .i64 so, .int .i64 0, .int .i64 0, .int .i64 0, .int .i64 0, .int .u64 0] 63) none) (by simp)).grown (grown_one _ (.stringIter sf 0) none) (by simp)
    have HW4 : Hid (Wb (((w2.alloc (.cells #[.int .i64 so, .string sw, .string sf] 111)).alloc (.cells #[.int .i64 so, .int .i64 0, .int .i64 0, .int .i64 0, .int .i64 0, .int .u64 0] 63)).iter sf 0) (w.heap.size + 1) ws N) := (HW3.out.grown (grown_one _ (.cells #[.int .i64 so, .int .i64 0, .int .i64 0, .int .i64 0, .int .i64 0, .int .u64 0] 63) none) (by simp)).grown (grown_one _ (.stringIter sf 0) none) (by simp)
    have HB4 : Hid (Below w.heap.size w (((w2.alloc (.cells #[.int .i64 so, .string sw, .string sf] 111)).alloc (.cells #[.int .i64 so, .int .i64 0, .int .i64 0, .int .i64 0, .int .i64 0, .int .u64 0] 63)).iter sf 0)) := (HB3.out.alloc HB3.out.size (.cells #[.int .i64 so, .int .i64 0, .int .i64 0, .int .i64 0, .int .i64 0, .int .u64 0] 63)).alloc (by have := HB3.out.size; simp; simp at this; omega) (.stringIter sf 0)
    have HT4 : Hid ((((w2.alloc (.cells #[.int .i64 so, .string sw, .string sf] 111)).alloc (.cells #[.int .i64 so, .int .i64 0, .int .i64 0, .int .i64 0, .int .i64 0, .int .u64 0] 63)).iter sf 0).heap[w2.heap.size + 2]? = some (.stringIter sf 0)) := by
      have := World.iter_heap ((w2.alloc (.cells #[.int .i64 so, .string sw, .string sf] 111)).alloc (.cells #[.int .i64 so, .int .i64 0, .int .i64 0, .int .i64 0, .int .i64 0, .int .u64 0] 63)) sf 0
      rw [World.size_alloc, World.size_alloc] at this
      exact this
    clear HI3 HW3 HB3
    go_wp2_with fail
    generalize (((w2.alloc (.cells #[.int .i64 so, .string sw, .string sf] 111)).alloc (.cells #[.int .i64 so, .int .i64 0, .int .i64 0, .int .i64 0, .int .i64 0, .int .u64 0] 63)).iter sf 0) = W0 at *
    go_loopw [] (fun wr => ∃ (k : Nat) (x : In), k ≤ sf.size ∧ Hid (Ib wr (w2.heap.size + 1) x) ∧ Hid (Ib wr w.heap.size ⟨0, 0, 0, 0, 0, 0⟩) ∧ Hid (Wb wr (w.heap.size + 1) ws N) ∧ Hid (wr.heap[w2.heap.size + 2]? = some (.stringIter sf k)) ∧ Hid (Below w.heap.size w wr) ∧ Hid (R = Pg.goP ws (sf.data.toList.drop k) k x)) (fun wr => sf.size - wr.iterPos (w2.heap.size + 2))
    case atStart => exact ⟨0, _, Nat.zero_le _, HI4, HZ4, HW4, HT4, HB4, HRes.out.symm⟩
    case round =>
      obtain ⟨k, x, hk, HI, HZ, HW, HTi, HB, HE⟩ := hrel
      clear HI4 HZ4 HW4 HT4 HB4 HRes
      by_cases hlt : k < sf.size
      · have hla : (sf[k]'hlt).toNat < 128 := HO.out.2.1 _ (at_mem sf k hlt)
        have hnx : ∀ ty, (Instr.next (.pointer (some ⟨w2.heap.size + 2, 0, none⟩)) true ty).run Tryz.prog wr = _ := fun ty => Lib.run_next_ascii_at wr (w2.heap.size + 2) sf k ty HTi.out hlt hla
        have HE2 := hide (HE.out.trans (goP_drop ws sf k hlt x))
        have hwk : 1 + k < ws.length := by have := HWL.out; omega
        have hus : (ws[1 + k]!).size ≤ 9223372036854775807 := by
          have h1 := HSz.out ws[1 + k]! (by rw [getElem!_pos ws (1 + k) hwk]; exact List.getElem_mem hwk)
          omega
        have hwd : ∀ w', Wb w' (w.heap.size + 1) ws N → w'.cell? ⟨w.heap.size + 1, 1 + k, none⟩ = some (.string ws[1 + k]!) := fun w' h => h.word hwk
        have hfl := fieldP_lt (sf[k]'hlt).toNat ws[1 + k]!
        generalize ws[1 + k]! = u at *
        generalize (sf[k]'hlt).toNat = l at *
        have HM : Hid (wr.iterPos (w2.heap.size + 2) = k) := iterPos_of HTi.out
        have hgi := grown_iterAt wr (w2.heap.size + 2) sf (k + 1)
        have HI2 := hide (HI.out.grown hgi (by simp))
        have HZ2 := hide (HZ.out.grown hgi (by simp; omega))
        have HW2 := hide (HW.out.grown hgi (by simp; omega))
        have HT2 := hide (Lib.iterAt_heap wr (w2.heap.size + 2) sf k (k + 1) HTi.out)
        have HB2 : Hid (Below w.heap.size w (wr.iterAt (w2.heap.size + 2) sf (k + 1))) := HB.out.grown hgi HB.out.size (fun j hj => by injection hj with hj; omega)
        clear HI HZ HW HTi HB HE hgi
        generalize wr.iterAt (w2.heap.size + 2) sf (k + 1) = wn at *
        have hcu := hwd wn HW2.out
        have HPF := hide (parseField_any l u hus wn (HT.out.below HB2.out (Nat.le_refl _)))
        generalize Pg.fieldP l u = r at *
        obtain ⟨rv, rb⟩ := r
        have hk3 : k < 3 := by omega
        have hki : (1 : Int) + (k : Int) < (ws.length : Int) := by omega
        clear hwd
        cases rb with
        | false =>
          have hER : R = (default, false) := HE2.out
          have HER := hide hER
          clear hER HE2
          go_wp2_with fail
          refine HPF.out.mono ?_
          rintro e w4 ⟨rfl, hb4⟩
          have HZ5 := hide (HZ2.out.grown (grown_below hb4 none) (by simp))
          have HB5 : Hid (Below w.heap.size w w4) := HB2.out.trans (hb4.mono HB2.out.size)
          obtain ⟨⟨z0, z1, z2, z3, z4, z5⟩, zz⟩ := six_of HZ5.out
          clear hb4
          go_wp2
          refine bodyPost_ret (by rw [results_cell_tmp rfl]; go_simp; rfl) rfl ?_
          rw [HER.out]
          exact ⟨rfl, (((((HB5.out.setCell (by simp) _).setCell (by simp) _).setCell (by simp) _).setCell (by simp) _).setCell (by simp) _).setCell (by simp) _⟩
        | true =>
          have HER : Hid (R = Pg.goP ws (sf.data.toList.drop (k + 1)) (k + 1) (Pg.setF x l rv)) := HE2.out
          clear HE2
          go_wp2_with fail
          refine HPF.out.mono ?_
          rintro e w4 ⟨rfl, hb4⟩
          have HI5 := hide (HI2.out.grown (grown_below hb4 none) (by simp))
          have HZ5 := hide (HZ2.out.grown (grown_below hb4 none) (by simp))
          have HW5 := hide (HW2.out.grown (grown_below hb4 none) (by simp))
          have HT5 : Hid (w4.heap[w2.heap.size + 2]? = some (.stringIter sf (k + 1))) := (hb4.block _ (lt_of_block HT2.out)).trans HT2.out
          have HB5 : Hid (Below w.heap.size w w4) := HB2.out.trans (hb4.mono HB2.out.size)
          clear hb4 HI2 HZ2 HW2 HT2 HB2 HPF hcu
          go_wp2_with fail
          refine (set_any x l rv hfl (w2.heap.size + 1) w4 HI5.out).mono ?_
          rintro e w5 ⟨rfl, hI6, hg6⟩
          have HI6 := hide hI6
          have HZ6 := hide (HZ5.out.grown hg6 (by simp; omega))
          have HW6 := hide (HW5.out.grown hg6 (by simp; omega))
          have HT6 : Hid (w5.heap[w2.heap.size + 2]? = some (.stringIter sf (k + 1))) := (hg6.block _ (lt_of_block HT5.out) (by simp)).trans HT5.out
          have HB6 : Hid (Below w.heap.size w w5) := HB5.out.grown hg6 HB5.out.size (fun j hj => by injection hj with hj; omega)
          clear hI6 hg6 HI5 HZ5 HW5 HT5 HB5
          go_wp2
          go_roundw
          case rel => exact ⟨k + 1, _, by omega, HI6, HZ6, HW6, HT6, HB6, HER⟩
          case measure => rw [HM.out, iterPos_of HT6.out]; omega
      · obtain rfl : k = sf.size := by omega
        have hnx : ∀ ty, (Instr.next (.pointer (some ⟨w2.heap.size + 2, 0, none⟩)) true ty).run Tryz.prog wr = _ := fun ty => Lib.run_next_end_at wr (w2.heap.size + 2) sf sf.size ty HTi.out (Nat.lt_irrefl _)
        have HER : Hid (R = (x, true)) := by refine HE.out.trans ?_; rw [fin_toList]; rfl
        obtain ⟨⟨x0, x1, x2, x3, x4, x5⟩, xz⟩ := six_of HI.out
        obtain ⟨⟨z0, z1, z2, z3, z4, z5⟩, zz⟩ := six_of HZ.out
        have hne : w2.heap.size + 1 ≠ w.heap.size := by omega
        clear HE
        go_wp2
        refine bodyPost_ret (by rw [results_cell_tmp rfl]; go_simp; rfl) rfl ?_
        rw [HER.out]
        exact ⟨rfl, (((((HB.out.setCell (by simp) _).setCell (by simp) _).setCell (by simp) _).setCell (by simp) _).setCell (by simp) _).setCell (by simp) _⟩
end Go.Proofs.YtoiibpkfpeceeaaGreatDoor
end
