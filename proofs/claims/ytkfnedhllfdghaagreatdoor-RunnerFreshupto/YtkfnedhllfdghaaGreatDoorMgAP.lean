import Derived.Test.YtkfnedhllfdghaaGreatDoorMgAO
import Derived.Test.YtkfnedhllfdghaaGreatDoorMgAA
import Derived.Laws.RangeString
import Derived.WalkSmall
import Derived.Shelf.Strings.BuilderK

section
namespace Go.Proofs.YtkfnedhllfdghaaGreatDoor
set_option maxRecDepth 20000
open Go.RowKit Go.Shelf

/-- a range over a text under way: its iterator is block IT; of the other blocks of W0 none is turned -/
structure Rng (W0 : World) (IT : Nat) (s : ByteArray) (pos : Nat) (wr : World) : Prop where
  it : wr.heap[IT]? = some (.stringIter s pos)
  size : W0.heap.size ≤ wr.heap.size
  keep : ∀ k, k < W0.heap.size → k ≠ IT → wr.heap[k]? = W0.heap[k]?
  os : wr.os = W0.os
  tape : wr.tape = W0.tape
  output : wr.output = W0.output
theorem Rng.start (w : World) (s : ByteArray) : Rng (w.iter s 0) w.heap.size s 0 (w.iter s 0) :=
  ⟨World.iter_heap w s 0, Nat.le_refl _, fun _ _ _ => rfl, rfl, rfl, rfl⟩
theorem Rng.step {W0 wr w' : World} {IT pos : Nat} {s : ByteArray} (h : Rng W0 IT s pos wr) {n : Nat} (hb : Below n wr w') (hn : wr.heap.size ≤ n) : Rng W0 IT s pos w' :=
  ⟨(hb.block IT (Nat.lt_of_lt_of_le (lt_of_block h.it) hn)).trans h.it, Nat.le_trans h.size hb.size, fun k hk hne => (hb.block k (Nat.lt_of_lt_of_le hk (Nat.le_trans h.size hn))).trans (h.keep k hk hne), hb.os.trans h.os, hb.tape.trans h.tape, hb.output.trans h.output⟩
theorem Rng.next {W0 wr : World} {IT pos : Nat} {s : ByteArray} (h : Rng W0 IT s pos wr) (q : Nat) : Rng W0 IT s q (wr.iterAt IT s q) :=
  ⟨Lib.iterAt_heap wr IT s pos q h.it, by rw [Lib.iterAt_size]; exact h.size, fun k hk hne => (Lib.iterAt_other wr IT k s q hne).trans (h.keep k hk hne), h.os, h.tape, h.output⟩
theorem Rng.below {w W0 wr : World} {IT pos n : Nat} {s : ByteArray} (h : Rng W0 IT s pos wr) (hb : Below n w W0) (hn : n ≤ IT) (hs : n ≤ W0.heap.size) : Below n w wr :=
  hb.trans ⟨h.os, h.tape, h.output, h.size, fun k hk => h.keep k (Nat.lt_of_lt_of_le hk hs) (by omega)⟩
theorem Rng.blk {W0 wr : World} {IT pos k : Nat} {s : ByteArray} {o : Obj} (h : Rng W0 IT s pos wr) (hk : W0.heap[k]? = some o) (hne : k ≠ IT) : wr.heap[k]? = some o :=
  (h.keep k (lt_of_block hk) hne).trans hk

namespace Pg
/-- is a letter among the fields? -/
def has (fs : ByteArray) (l : Nat) : Bool := decide (0 ≤ Lib.indexByte fs.data.toList (l : Int).toNat.toUInt8)
def namedE (v l many : Nat) : Int := if l = 75 then (if Gn.canonW v ≠ v then 54 else 0) else if l = 78 then (if many < v then 53 else 0) else if 8 ≤ v then 52 else 0
def unnamedE (v : Nat) : Int := if v ≠ 0 then 54 else 0
def fieldE (fs : ByteArray) (x : In) (many l : Nat) : Int := if has fs l then namedE (get x l) l many else unnamedE (get x l)
def al : ByteArray := ⟨#[65, 66, 67, 78, 75]⟩
def firstE (fs : ByteArray) (x : In) (many : Nat) : List Nat → Int
  | [] => 0
  | l :: r => if fieldE fs x many l ≠ 0 then fieldE fs x many l else firstE fs x many r
def insE (x : In) (many : Nat) : Int := if (shape x.op).2 = false then 51 else firstE (shape x.op).1.flds x many [65, 66, 67, 78, 75]
end Pg
theorem get_lt (x : In) (hk : x.k < 18446744073709551616) (l : Nat) : Pg.get x l < 18446744073709551616 := by
  unfold Pg.get
  repeat' split
  all_goals first | exact un_lt _ | exact hk

theorem unnamed_any (v : Nat) (w : World) : Calls Tryz.prog 281 #[.int .u64 (v : Int)] w fun e w' => e = .returned (.int .i64 (Pg.unnamedE v)) ∧ w' = w := by
  unfold Pg.unnamedE
  by_cases h : v = 0
  · subst h
    go_enter Tryz.func281, Tryz.ntmps281
    go_wp2
    go_ret
    exact ⟨rfl, rfl⟩
  · have hb : ((v : Int) != 0) = true := by simp; omega
    rw [if_pos h]
    go_enter Tryz.func281, Tryz.ntmps281
    go_wp2
    go_ret
    exact ⟨rfl, rfl⟩
set_option maxHeartbeats 1000000 in
theorem named_any (v l many : Nat) (hv : v < 18446744073709551616) (hm : many < 1000000) (w : World) : Calls Tryz.prog 284 #[.int .u64 (v : Int), .int .i32 (l : Int), .int .i64 (many : Int)] w fun e w' => e = .returned (.int .i64 (Pg.namedE v l many)) ∧ w' = w := by
  have HC := hide (canon_any v hv w)
  unfold Pg.namedE
  by_cases h1 : l = 75
  · subst h1
    rw [if_pos rfl]
    by_cases h2 : Gn.canonW v = v
    · rw [h2] at HC
      rw [if_neg (by simp [h2])]
      clear h2
      go_enter Tryz.func284, Tryz.ntmps284
      go_wp2_with (go_at_call 250; refine HC.out.mono ?_; rintro e w' ⟨rfl, rfl⟩)
      go_ret
      exact ⟨rfl, rfl⟩
    · rw [if_pos h2]
      have hb : ((Gn.canonW v : Int) != (v : Int)) = true := by simp; omega
      generalize Gn.canonW v = c at *
      clear h2
      go_enter Tryz.func284, Tryz.ntmps284
      go_wp2_with (go_at_call 250; refine HC.out.mono ?_; rintro e w' ⟨rfl, rfl⟩)
      go_ret
      exact ⟨rfl, rfl⟩
  · rw [if_neg h1]
    have b1 : ((l : Int) == 75) = false := by simp; omega
    clear HC
    by_cases h3 : l = 78
    · subst h3
      rw [if_pos rfl]
      clear hv
      by_cases h4 : many < v
      · rw [if_pos h4]
        go_enter Tryz.func284, Tryz.ntmps284
        go_wp2
        go_ret
        exact ⟨rfl, rfl⟩
      · rw [if_neg h4]
        go_enter Tryz.func284, Tryz.ntmps284
        go_wp2
        go_ret
        exact ⟨rfl, rfl⟩
    · rw [if_neg h3]
      have b2 : ((l : Int) == 78) = false := by simp; omega
      have b3 : ((l : Int) != 78) = true := by simp; omega
      clear hv
      by_cases h4 : 8 ≤ v
      · rw [if_pos h4]
        go_enter Tryz.func284, Tryz.ntmps284
        go_wp2
        go_ret
        exact ⟨rfl, rfl⟩
      · rw [if_neg h4]
        go_enter Tryz.func284, Tryz.ntmps284
        go_wp2
        go_ret
        exact ⟨rfl, rfl⟩
theorem six_of {w : World} {B T : Nat} {a b c d e f : Value} (h : w.heap[B]? = some (.cells #[a, b, c, d, e, f] T (0, 0))) :
    (w.cell? ⟨B, 0, none⟩ = some a ∧ w.cell? ⟨B, 1, none⟩ = some b ∧ w.cell? ⟨B, 2, none⟩ = some c ∧ w.cell? ⟨B, 3, none⟩ = some d ∧ w.cell? ⟨B, 4, none⟩ = some e ∧ w.cell? ⟨B, 5, none⟩ = some f) ∧ ∀ k, w.frozen? ⟨B, k, none⟩ = false :=
  ⟨⟨by simp [World.cell?, h], by simp [World.cell?, h], by simp [World.cell?, h], by simp [World.cell?, h], by simp [World.cell?, h], by simp [World.cell?, h]⟩, fun k => by simp [World.frozen?, h]⟩
theorem al_small : ∀ (k : Nat) (h : k < Pg.al.size), (Pg.al[k]'h).toNat < 128
  | 0, _ => show (65 : Nat) < 128 by decide
  | 1, _ => show (66 : Nat) < 128 by decide
  | 2, _ => show (67 : Nat) < 128 by decide
  | 3, _ => show (78 : Nat) < 128 by decide
  | 4, _ => show (75 : Nat) < 128 by decide
  | k + 5, h => absurd (show k + 5 < 5 from h) (by omega)
theorem al_step (sf : ByteArray) (x : In) (many : Nat) : ∀ (k : Nat) (h : k < Pg.al.size), Pg.firstE sf x many (([65, 66, 67, 78, 75] : List Nat).drop k) = if Pg.fieldE sf x many (Pg.al[k]'h).toNat ≠ 0 then Pg.fieldE sf x many (Pg.al[k]'h).toNat else Pg.firstE sf x many (([65, 66, 67, 78, 75] : List Nat).drop (k + 1))
  | 0, _ => rfl
  | 1, _ => rfl
  | 2, _ => rfl
  | 3, _ => rfl
  | 4, _ => rfl
  | k + 5, h => absurd (show k + 5 < 5 from h) (by omega)
set_option maxHeartbeats 1000000 in
theorem checkIns_any (x : In) (hx : x.k < 18446744073709551616) (many : Nat) (hm : many < 1000000) (w : World) :
    Calls Tryz.prog 261 #[.agg #[.int .i64 x.op, .int .i64 x.a, .int .i64 x.b, .int .i64 x.c, .int .i64 x.n, .int .u64 (x.k : Int)], .int .i64 (many : Int)] w fun e w' => e = .returned (.int .i64 (Pg.insE x many)) ∧ Below w.heap.size w w' := by
  have HS := hide (shapeOf_any x.op)
  unfold Pg.insE
  generalize Pg.shape x.op = sh at *
  obtain ⟨⟨so, sw, sf⟩, sb⟩ := sh
  go_enter Tryz.func261, Tryz.ntmps261
  go_wp2_with fail
  refine (HS.out _).mono ?_
  rintro e w1 ⟨rfl, hb1⟩
  have hx1 : w1.heap[w.heap.size]? = some (.cells #[.int .i64 x.op, .int .i64 x.a, .int .i64 x.b, .int .i64 x.c, .int .i64 x.n, .int .u64 (x.k : Int)] 189 (0, 0)) := (hb1.block w.heap.size (by simp)).trans (heap_alloc_new w _)
  have HB1 : Hid (Below w.heap.size w w1) := (below_one w _).trans (hb1.mono (by simp))
  have HX1 := hide hx1
  have HZ1 : Hid (w.heap.size + 1 ≤ w1.heap.size) := by have := hb1.size; rw [World.size_alloc] at this; exact this
  clear hx1 hb1 HS
  cases sb with
  | false =>
    go_wp2
    go_ret
    exact ⟨rfl, HB1.out.alloc HB1.out.size _⟩
  | true =>
    have HXi : Hid (((w1.alloc (.cells #[.int .i64 so, .string sw, .string sf] 284)).iter Pg.al 0).heap[w.heap.size]? = some (.cells #[.int .i64 x.op, .int .i64 x.a, .int .i64 x.b, .int .i64 x.c, .int .i64 x.n, .int .u64 (x.k : Int)] 189 (0, 0))) := by
      have h1 := Below.heap_alloc (w1.alloc (.cells #[.int .i64 so, .string sw, .string sf] 284)) (.stringIter Pg.al 0) w.heap.size (by have := HZ1.out; simp; omega)
      exact h1.trans ((Below.heap_alloc w1 _ _ (by have := HZ1.out; omega)).trans HX1.out)
    have HXs : Hid (((w1.alloc (.cells #[.int .i64 so, .string sw, .string sf] 284)).iter Pg.al 0).heap[w1.heap.size]? = some (.cells #[.int .i64 so, .string sw, .string sf] 284 (0, 0))) := by
      have h1 := Below.heap_alloc (w1.alloc (.cells #[.int .i64 so, .string sw, .string sf] 284)) (.stringIter Pg.al 0) w1.heap.size (by simp)
      exact h1.trans (heap_alloc_new w1 _)
    have HBi : Hid (Below w.heap.size w ((w1.alloc (.cells #[.int .i64 so, .string sw, .string sf] 284)).iter Pg.al 0)) := (HB1.out.alloc HB1.out.size _).alloc (by have := HB1.out.size; simp; omega) _
    have HRi : Hid (Rng ((w1.alloc (.cells #[.int .i64 so, .string sw, .string sf] 284)).iter Pg.al 0) (w1.heap.size + 1) Pg.al 0 ((w1.alloc (.cells #[.int .i64 so, .string sw, .string sf] 284)).iter Pg.al 0)) := by
      have := Rng.start (w1.alloc (.cells #[.int .i64 so, .string sw, .string sf] 284)) Pg.al
      rw [World.size_alloc] at this
      exact this
    have HSi : Hid (w1.heap.size + 1 < ((w1.alloc (.cells #[.int .i64 so, .string sw, .string sf] 284)).iter Pg.al 0).heap.size) := by show _ < ((w1.alloc (.cells #[.int .i64 so, .string sw, .string sf] 284)).alloc (.stringIter Pg.al 0)).heap.size; simp
    go_wp2_with fail
    have hal : (⟨#[65, 66, 67, 78, 75]⟩ : ByteArray) = Pg.al := rfl
    rw [hal]
    generalize (w1.alloc (.cells #[.int .i64 so, .string sw, .string sf] 284)).iter Pg.al 0 = W0 at *
    go_loopw [] (fun wr => ∃ k : Nat, k ≤ 5 ∧ Hid (Rng W0 (w1.heap.size + 1) Pg.al k wr) ∧ Hid (Pg.firstE sf x many [65, 66, 67, 78, 75] = Pg.firstE sf x many (([65, 66, 67, 78, 75] : List Nat).drop k))) (fun wr => 5 - wr.iterPos (w1.heap.size + 1))
    case atStart => exact ⟨0, by omega, HRi, rfl⟩
    case round =>
      obtain ⟨k, hk, HR, HE⟩ := hrel
      clear HRi HB1 HX1
      have hIT : w.heap.size ≠ w1.heap.size + 1 := by have := HZ1.out; omega
      by_cases hlt : k < 5
      · have hks : k < Pg.al.size := hlt
        have hla := al_small k hks
        have hnx : ∀ ty, (Instr.next (.pointer (some ⟨w1.heap.size + 1, 0, none⟩)) true ty).run Tryz.prog wr = _ := fun ty => Lib.run_next_ascii_at wr (w1.heap.size + 1) Pg.al k ty HR.out.it hks hla
        have HE2 : Hid (Pg.firstE sf x many [65, 66, 67, 78, 75] = if Pg.fieldE sf x many (Pg.al[k]'hks).toNat ≠ 0 then Pg.fieldE sf x many (Pg.al[k]'hks).toNat else Pg.firstE sf x many (([65, 66, 67, 78, 75] : List Nat).drop (k + 1))) := by
          exact HE.out.trans (al_step sf x many k hks)
        generalize (Pg.al[k]'hks).toNat = l at *
        have HR2 := hide (HR.out.next (k + 1))
        have HM : Hid (wr.iterPos (w1.heap.size + 1) = k) := iterPos_of HR.out.it
        clear HR HE
        generalize wr.iterAt (w1.heap.size + 1) Pg.al (k + 1) = wn at *
        obtain ⟨⟨x0, x1, x2, x3, x4, x5⟩, xz⟩ := six_of (HR2.out.blk HXi.out hIT)
        go_wp2_with fail
        refine (get_any x l wn).mono ?_
        rintro e w2 ⟨rfl, hb2⟩
        have HR3 := hide (HR2.out.step hb2 (Nat.le_refl _))
        obtain ⟨⟨y0, y1, y2, y3, y4, y5⟩, yz⟩ := six_of (HR3.out.blk HXi.out hIT)
        obtain ⟨⟨z0, z1, z2⟩, zz⟩ := three_of (HR3.out.blk HXs.out (by omega))
        clear hb2 HR2 x0 x1 x2 x3 x4 x5 xz
        go_wp2_with fail
        refine (unnamed_any (Pg.get x l) w2).mono ?_
        rintro e w2' ⟨rfl, rfl⟩
        go_wp2_with fail
        refine (Tryz.strings_ContainsRune_ascii sf (l : Int) _ (by omega) (by omega)).mono ?_
        rintro e w2' ⟨rfl, rfl⟩
        have hh : decide (0 ≤ Lib.indexByte sf.data.toList (l : Int).toNat.toUInt8) = Pg.has sf l := rfl
        rw [hh]
        clear hh
        cases hhas : Pg.has sf l with
        | false =>
          have hfe : Pg.fieldE sf x many l = Pg.unnamedE (Pg.get x l) := by unfold Pg.fieldE; rw [hhas]; rfl
          rw [hfe] at HE2
          clear hfe hhas
          generalize Pg.unnamedE (Pg.get x l) = E at *
          by_cases hE : E = 0
          · subst hE
            go_wp2
            go_roundw
            case rel => exact ⟨k + 1, by omega, HR3, by have := HE2.out; rw [if_neg (by simp)] at this; exact this⟩
            case measure => rw [HM.out, iterPos_of HR3.out.it]; omega
          · have hb : (E != 0) = true := by simp [hE]
            go_wp2
            go_ret
            exact ⟨by rw [show Pg.firstE sf x many [65, 66, 67, 78, 75] = E by have := HE2.out; rw [if_pos hE] at this; exact this]; rfl, HR3.out.below HBi.out (by have := HZ1.out; omega) HBi.out.size⟩
        | true =>
          have hfe : Pg.fieldE sf x many l = Pg.namedE (Pg.get x l) l many := by unfold Pg.fieldE; rw [hhas]; rfl
          rw [hfe] at HE2
          have HN := hide (named_any (Pg.get x l) l many (get_lt x hx l) hm)
          clear hfe hhas
          generalize Pg.namedE (Pg.get x l) l many = E at *
          go_wp2_with fail
          refine (get_any x l _).mono ?_
          rintro e w4 ⟨rfl, hb4⟩
          have HR4 := hide (HR3.out.step hb4 (Nat.le_refl _))
          clear hb4 HR3 y0 y1 y2 y3 y4 y5 yz z0 z1 z2 zz
          go_wp2_with fail
          refine (HN.out w4).mono ?_
          rintro e w4' ⟨rfl, rfl⟩
          by_cases hE : E = 0
          · subst hE
            go_wp2
            go_roundw
            case rel => exact ⟨k + 1, by omega, HR4, by have := HE2.out; rw [if_neg (by simp)] at this; exact this⟩
            case measure => rw [HM.out, iterPos_of HR4.out.it]; omega
          · have hb : (E != 0) = true := by simp [hE]
            go_wp2
            go_ret
            exact ⟨by rw [show Pg.firstE sf x many [65, 66, 67, 78, 75] = E by have := HE2.out; rw [if_pos hE] at this; exact this]; rfl, HR4.out.below HBi.out (by have := HZ1.out; omega) HBi.out.size⟩
      · obtain rfl : k = 5 := by omega
        have hnx : ∀ ty, (Instr.next (.pointer (some ⟨w1.heap.size + 1, 0, none⟩)) true ty).run Tryz.prog wr = _ := fun ty => Lib.run_next_end_at wr (w1.heap.size + 1) Pg.al 5 ty HR.out.it (by decide)
        go_wp2
        go_ret
        exact ⟨by rw [show Pg.firstE sf x many [65, 66, 67, 78, 75] = 0 from HE.out]; rfl, HR.out.below HBi.out (by have := HZ1.out; omega) HBi.out.size⟩
end Go.Proofs.YtkfnedhllfdghaaGreatDoor
end

section
namespace Go.Proofs.YtkfnedhllfdghaaGreatDoor
set_option maxRecDepth 20000
open Go.RowKit Go.Shelf

/-- a slice of instructions that is only read -/
structure Cd (w : World) (v : Value) (xs : List In) : Prop where
  form : ∃ p cap, v = .slice p xs.length cap ∧ (0 < xs.length → ∃ b off, p = some ⟨b, off, none⟩ ∧ b < w.heap.size ∧ ∀ j, j < xs.length → ∀ i u, (xs[j]!).cs[i]? = some u → w.cell? ⟨b, off + j * 6 + i, none⟩ = some u)
theorem Cd.below {w w' : World} {v : Value} {xs : List In} (h : Cd w v xs) {n : Nat} (hb : Below n w w') (hn : w.heap.size ≤ n) : Cd w' v xs := by
  obtain ⟨p, cap, hv, h2⟩ := h
  refine ⟨p, cap, hv, fun h0 => ?_⟩
  obtain ⟨b, off, hp, hlt, hc⟩ := h2 h0
  exact ⟨b, off, hp, Nat.lt_of_lt_of_le hlt hb.size, fun j hj i u hi => (hb.cell (p := ⟨b, off + j * 6 + i, none⟩) (Nat.lt_of_lt_of_le hlt hn)).trans (hc j hj i u hi)⟩
namespace Pg
/-- the first wrong one of a row, from a place on -/
def goE (many : Nat) : List In → Nat → Int × Int
  | [], _ => (0, 0)
  | x :: r, i => if insE x many ≠ 0 then (insE x many, (i : Int)) else goE many r (i + 1)
def checkE (fuel : Int) (xs : List In) : Int × Int := if fuel < 1 ∨ 1024 < fuel then (56, 0) else if xs.length = 0 ∨ 64 < xs.length then (50, 0) else goE xs.length xs 0
end Pg
theorem goE_drop (many : Nat) (xs : List In) (k : Nat) (h : k < xs.length) : Pg.goE many (xs.drop k) k = if Pg.insE xs[k]! many ≠ 0 then (Pg.insE xs[k]! many, (k : Int)) else Pg.goE many (xs.drop (k + 1)) (k + 1) := by
  rw [List.drop_eq_getElem_cons h]
  show (if _ then _ else _) = _
  rw [getElem!_pos xs k h]
set_option maxHeartbeats 1000000 in
theorem check_any (fuel : Int) (xs : List In) (hx : ∀ x ∈ xs, x.k < 18446744073709551616) (v : Value) (w : World) (h : Cd w v xs) :
    Calls Tryz.prog 221 #[.agg #[.int .i64 fuel, v]] w fun e w' => e = .returned (.tuple #[.int .i64 (Pg.checkE fuel xs).1, .int .i64 (Pg.checkE fuel xs).2]) ∧ Below w.heap.size w w' := by
  obtain ⟨p, cap, rfl, h2⟩ := h
  unfold Pg.checkE
  by_cases h1 : fuel < 1
  · rw [if_pos (.inl h1)]
    go_enter Tryz.func221, Tryz.ntmps221
    go_wp2
    go_ret2
    exact ⟨rfl, below_one _ _⟩
  by_cases h3 : 1024 < fuel
  · rw [if_pos (.inr h3)]
    go_enter Tryz.func221, Tryz.ntmps221
    go_wp2
    go_ret2
    exact ⟨rfl, below_one _ _⟩
  rw [if_neg (by omega)]
  by_cases h4 : xs.length = 0
  · rw [if_pos (.inl h4)]
    rw [h4] at h2 ⊢
    go_enter Tryz.func221, Tryz.ntmps221
    go_wp2
    go_ret2
    exact ⟨rfl, below_one _ _⟩
  by_cases h5 : 64 < xs.length
  · rw [if_pos (.inr h5)]
    have b0 : ((xs.length : Int) == 0) = false := beq_eq_false_iff_ne.2 (by omega)
    generalize xs.length = m at *
    go_enter Tryz.func221, Tryz.ntmps221
    go_wp2
    go_ret2
    exact ⟨rfl, below_one _ _⟩
  rw [if_neg (by omega)]
  obtain ⟨b, off, rfl, hlt, hc⟩ := h2 (by omega)
  have b0 : ((xs.length : Int) == 0) = false := beq_eq_false_iff_ne.2 (by omega)
  have b1 : decide ((64 : Int) < (xs.length : Int)) = false := by simp; omega
  have HC := hide hc
  have HX := hide hx
  clear hc hx
  have hm : xs.length < 1000000 := by omega
  go_enter Tryz.func221, Tryz.ntmps221
  go_wp2_with fail
  go_loopw [28] (fun s wr => ∃ k : Nat, k ≤ xs.length ∧ s = .int .i64 (k : Int) ∧ Hid (Below (w.heap.size + 1) (w.alloc (.cells #[.int .i64 fuel, .slice (some ⟨b, off, none⟩) xs.length cap] 62)) wr) ∧ Hid (Pg.goE xs.length xs 0 = Pg.goE xs.length (xs.drop k) k)) (fun s _ => xs.length - (intOf s).toNat)
  case atStart => exact ⟨0, Nat.zero_le _, rfl, Below.refl _ _, rfl⟩
  case round =>
    obtain ⟨k, hk, rfl, HB, HE⟩ := hrel
    by_cases hkl : k < xs.length
    · have hc : ∀ i u, (xs[k]!).cs[i]? = some u → wr.cell? ⟨b, off + k * 6 + i, none⟩ = some u := fun i u hi =>
        (HB.out.cell (p := ⟨b, off + k * 6 + i, none⟩) (by show b < w.heap.size + 1; omega)).trans ((World.cell?_alloc_past _ _ _ hlt).trans (HC.out k hkl i u hi))
      have c0 := hc 0 _ rfl
      have c1 := hc 1 _ rfl
      have c2 := hc 2 _ rfl
      have c3 := hc 3 _ rfl
      have c4 := hc 4 _ rfl
      have c5 := hc 5 _ rfl
      simp only [Nat.add_zero] at c0
      have hg := goE_drop xs.length xs k hkl
      have HE2 := hide (HE.out.trans hg)
      have hxk := HX.out xs[k]! (by rw [getElem!_pos xs k hkl]; exact List.getElem_mem hkl)
      have HI := hide (checkIns_any xs[k]! hxk xs.length hm)
      generalize xs[k]! = x at *
      generalize Pg.insE x xs.length = E at *
      have hbl : b < wr.heap.size := by have := HB.out.size; simp at this; omega
      have hp : wr.heap[w.heap.size]? = some (.cells #[.int .i64 fuel, .slice (some ⟨b, off, none⟩) xs.length cap] 62 (0, 0)) := (HB.out.block w.heap.size (by omega)).trans (heap_alloc_new w _)
      have hpc : wr.cell? ⟨w.heap.size, 1, none⟩ = some (.slice (some ⟨b, off, none⟩) xs.length cap) := by simp [World.cell?, hp]
      have hpl : w.heap.size < wr.heap.size := lt_of_block hp
      have hki : (k : Int) < (xs.length : Int) := by omega
      clear hc hg hp hxk HE
      go_wp2_with fail
      refine (HI.out _).mono ?_
      rintro e w2 ⟨rfl, hb2⟩
      have HB2 : Hid (Below (w.heap.size + 1) (w.alloc (.cells #[.int .i64 fuel, .slice (some ⟨b, off, none⟩) xs.length cap] 62)) w2) := (HB.out.alloc (by omega) _).trans (hb2.mono (by simp; omega))
      clear HB hb2 c0 c1 c2 c3 c4 c5
      by_cases hE : E = 0
      · subst hE
        go_wp2
        go_roundw
        case rel => exact ⟨k + 1, by omega, by go_num, HB2, by have := HE2.out; rw [if_neg (by simp)] at this; exact this⟩
        case measure => simp [intOf]; omega
      · have hb : (E != 0) = true := by simp [hE]
        go_wp2
        go_ret2
        exact ⟨by rw [show Pg.goE xs.length xs 0 = (E, (k : Int)) by have := HE2.out; rw [if_pos hE] at this; exact this]; rfl, (below_one w _).trans (HB2.out.mono (by omega))⟩
    · obtain rfl : k = xs.length := by omega
      have hki : ¬ (xs.length : Int) < (xs.length : Int) := by omega
      have e0 : Pg.goE xs.length xs 0 = (0, 0) := by rw [HE.out, List.drop_length]; rfl
      have HE0 := hide e0
      clear e0 HE
      go_wp2
      go_ret2
      exact ⟨by rw [HE0.out]; rfl, (below_one w _).trans (HB.out.mono (by omega))⟩
end Go.Proofs.YtkfnedhllfdghaaGreatDoor
end

section
namespace Go.Proofs.YtkfnedhllfdghaaGreatDoor
set_option maxRecDepth 20000
open Go.RowKit Go.Shelf

/-- the names of a builder's parts in this program -/
def bldRen : Ren := ⟨fun | 166 => 129 | 240 => 158 | 276 => 190 | n => n, fun | 0 => 0 | 3 => 3 | 4 => 4 | 9 => 9 | 20 => 20 | 37 => 212 | 70 => 211 | 72 => 214 | 75 => 216 | 164 => 266 | 5 => 5 | 80 => 176 | n => n, fun | n => n⟩
theorem bldLays : Go.Proofs.Lays.n166 Tryz.prog bldRen := {
  mixed := by kernel_rfl
  f166 := Tryz.func129.trans (congrArg some (by kernel_rfl))
  f240 := Tryz.func158.trans (congrArg some (by kernel_rfl))
  f276 := Tryz.func190.trans (congrArg some (by kernel_rfl))
  t0 := by kernel_rfl
  a0 := fun _ => by kernel_rfl
  z0 := fun _ => by kernel_rfl
  v0 := fun _ => by kernel_rfl
  t3 := by kernel_rfl
  a3 := fun _ => by kernel_rfl
  z3 := fun _ => by kernel_rfl
  v3 := fun _ => by kernel_rfl
  t4 := by kernel_rfl
  a4 := fun _ => by kernel_rfl
  z4 := fun _ => by kernel_rfl
  v4 := fun _ => by kernel_rfl
  t9 := by kernel_rfl
  a9 := fun _ => by kernel_rfl
  z9 := fun _ => by kernel_rfl
  v9 := fun _ => by kernel_rfl
  t20 := by kernel_rfl
  a20 := fun _ => by kernel_rfl
  z20 := fun _ => by kernel_rfl
  v20 := fun _ => by kernel_rfl
  t37 := by kernel_rfl
  a37 := fun _ => by kernel_rfl
  z37 := fun _ => by kernel_rfl
  v37 := fun _ => by kernel_rfl
  t70 := by kernel_rfl
  a70 := fun _ => by kernel_rfl
  z70 := fun _ => by kernel_rfl
  v70 := fun _ => by kernel_rfl
  t72 := by kernel_rfl
  a72 := fun _ => by kernel_rfl
  z72 := fun _ => by kernel_rfl
  v72 := fun _ => by kernel_rfl
  t75 := by kernel_rfl
  a75 := fun _ => by kernel_rfl
  z75 := fun _ => by kernel_rfl
  v75 := fun _ => by kernel_rfl
  t164 := by kernel_rfl
  a164 := fun _ => by kernel_rfl
  z164 := fun _ => by kernel_rfl
  v164 := fun _ => by kernel_rfl }
theorem bldExtra : Builder.Extra Tryz.prog bldRen := {
  sizeBuilder := by kernel_rfl
  liesBuilder := by kernel_rfl
  t5 := by kernel_rfl
  a5 := fun _ => by kernel_rfl
  z5 := fun _ => by kernel_rfl
  v5 := fun _ => by kernel_rfl
  infoByte := by kernel_rfl
  cellsByte := by kernel_rfl
  sizeByte := by kernel_rfl
  neB5 := by decide }
theorem writeString_k (B b : Nat) (bs : List Value) (s : ByteArray) (w : World) (h : Lib.IsBuilderF 214 5 B b bs w) (hlen : bs.length + s.size ≤ 140737488355328) (hBw : B ≤ w.heap.size) :
    Calls Tryz.prog 129 #[.pointer (some ⟨b, 0, none⟩), .string s] w fun e w' => e = .returned (.tuple #[.int .i64 s.size, .nilIface]) ∧ (Lib.BuilderAtF 214 5 B b (.pointer (some ⟨b, 0, none⟩)) (bs ++ Lib.strCells s) w' ∧ Below B w w' ∧ Lib.OthersKept 5 (some b) w w') :=
  Any.Builder_WriteString_k bldLays bldExtra B b bs s w h hlen hBw
end Go.Proofs.YtkfnedhllfdghaaGreatDoor
end
