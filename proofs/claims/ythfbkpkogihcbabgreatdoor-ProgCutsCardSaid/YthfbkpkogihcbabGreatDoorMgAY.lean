import Derived.Test.YthfbkpkogihcbabGreatDoorMgAX
import Derived.Test.YthfbkpkogihcbabGreatDoorMgAL
import Derived.Deep.QuietTactic

section
namespace Go.Proofs.YthfbkpkogihcbabGreatDoor
open Go.RowKit Go.Shelf

def exI : List In := [⟨1, 0, 0, 0, 0, 4609434218613702656⟩, ⟨21, 0, 0, 0, 0, 0⟩, ⟨14, 0, 0, 0, 3, 0⟩]
theorem ex_check : Pg.checkE 9 exI = (0, 0) := by kernel_rfl
theorem ex_print : Pg.printS 9 exI = ⟨#[102, 117, 101, 108, 32, 57, 10, 115, 101, 116, 32, 114, 48, 32, 51, 112, 45, 49, 10, 101, 109, 105, 116, 32, 114, 48, 10, 106, 117, 109, 112, 32, 51, 10]⟩ := by kernel_rfl
theorem ex_parse : Pg.parseS ⟨#[102, 117, 101, 108, 32, 57, 10, 115, 101, 116, 32, 114, 48, 32, 51, 112, 45, 49, 10, 101, 109, 105, 116, 32, 114, 48, 10, 106, 117, 109, 112, 32, 51, 10]⟩ = ((9, exI), (0, 0)) := by kernel_rfl
theorem ex_pack : Pg.packS 9 exI = ⟨#[9, 3, 1, 0, 63, 248, 0, 0, 0, 0, 0, 0, 21, 0, 14, 3]⟩ := by kernel_rfl
theorem ex_unpack : Pg.unpackS ⟨#[9, 3, 1, 0, 63, 248, 0, 0, 0, 0, 0, 0, 21, 0, 14, 3]⟩ = ((9, exI), 0) := by kernel_rfl
theorem ex_zero : Pg.checkE 0 [] = (56, 0) := by kernel_rfl
theorem ex_none : Pg.parseS ⟨#[]⟩ = ((0, []), (55, 1)) := by kernel_rfl
theorem ex_empty : Pg.unpackS ⟨#[]⟩ = ((0, []), 54) := by kernel_rfl
theorem exI_k : ∀ x ∈ exI, x.k < 18446744073709551616 := by decide

theorem cd_block {w : World} {b cap : Nat} {xs : List In} {t : TypeId} {fz : Nat × Nat} (h : w.heap[b]? = some (.cells (Pg.flat xs).toArray t fz)) : Cd w (.slice (some ⟨b, 0, none⟩) xs.length cap) xs := by
  refine ⟨_, cap, rfl, fun _ => ⟨b, 0, rfl, lt_of_block h, fun j hj i u hi => ?_⟩⟩
  have hi6 : i < 6 := (List.getElem?_eq_some_iff.1 hi).1
  rw [← flat_get In.cs 6 (fun _ => rfl) xs j i hj hi6] at hi
  simp only [World.cell?, h]
  show (Pg.flat xs).toArray[0 + j * 6 + i]? = some u
  rw [Nat.zero_add, List.getElem?_toArray]
  exact hi
theorem example_any (w : World) : Calls Tryz.prog 29 #[] w fun e w' => ∃ v, e = .returned (.agg #[.int .i64 9, v]) ∧ Cd w' v exI ∧ Below w.heap.size w w' := by
  go_enter Tryz.func29, Tryz.ntmps29
  go_wp2
  refine bodyPost_ret (by rw [results_one rfl]; go_simp; rfl) rfl ?_
  refine ⟨_, rfl, cd_block (xs := exI) (t := 39) (fz := (0, 0)) ?_, (below_one w _).trans ((below_one _ _).mono (by simp))⟩
  have := heap_alloc_new (w.alloc (.cells #[.int .i64 9, .slice (some ⟨w.heap.size + 1, 0, none⟩) 3 3] 25)) (.cells (Pg.flat exI).toArray 39)
  rw [World.size_alloc] at this
  exact this
theorem guardI (op : BinOp) (x y : Operand) (xs ys : Array Value) (w : World) : (eqGuard op 39 x y (.agg xs) (.agg ys)).run Tryz.prog w = .ok () w := run_eqGuard_agg w op _ x y xs ys (by kernel_rfl)
theorem eqI_self (x : In) (w : World) : (Op.equalIn 10000 39 (.agg #[.int .i64 x.op, .int .i64 x.a, .int .i64 x.b, .int .i64 x.c, .int .i64 x.n, .int .u64 (x.k : Int)]) (.agg #[.int .i64 x.op, .int .i64 x.a, .int .i64 x.b, .int .i64 x.c, .int .i64 x.n, .int .u64 (x.k : Int)])).run Tryz.prog w = .ok true w := by
  have u3 := Tryz.underlying3
  have a3 := Tryz.isAgg3
  have z3 := Tryz.sizeOf3
  have u9 := Tryz.underlying37
  have a9 := Tryz.isAgg37
  have z9 := Tryz.sizeOf37
  have hS : Tryz.prog.underlying 39 = some (.struct (Tryz.prog.fieldsOf 39)) := by kernel_rfl
  have hp : Tryz.prog.stoodInHeld 39 = false := by kernel_rfl
  rw [show (10000 : Nat) = 9999 + 1 from rfl, run_equalIn_agg w 9999 39 _ _ hS hp]
  simp only [Program.fieldsOf, Tryz.underlying39]
  go_simp
theorem neqI_self (x : In) (w : World) : (binOp .neq 39 (.agg #[.int .i64 x.op, .int .i64 x.a, .int .i64 x.b, .int .i64 x.c, .int .i64 x.n, .int .u64 (x.k : Int)]) (.agg #[.int .i64 x.op, .int .i64 x.a, .int .i64 x.b, .int .i64 x.c, .int .i64 x.n, .int .u64 (x.k : Int)])).run Tryz.prog w = .ok (.bool false) w := by
  rw [run_neq_struct, eqI_self]
  rfl
set_option maxRecDepth 10000 in
set_option maxHeartbeats 1000000 in
theorem same_self (f : Int) (xs : List In) (v1 v2 : Value) (w : World) (h1 : Cd w v1 xs) (h2 : Cd w v2 xs) (hl : xs.length ≤ 140737488355328) :
    Calls Tryz.prog 30 #[.agg #[.int .i64 f, v1], .agg #[.int .i64 f, v2]] w fun e w' => e = .returned (.bool true) ∧ Below w.heap.size w w' := by
  obtain ⟨p1, c1, rfl, k1⟩ := h1
  obtain ⟨p2, c2, rfl, k2⟩ := h2
  have HK1 := hide k1
  have HK2 := hide k2
  clear k1 k2
  have b0 : (f != f) = false := by simp
  have b1 : ((xs.length : Int) != (xs.length : Int)) = false := by simp
  go_enter Tryz.func30, Tryz.ntmps30
  go_wp2_with fail
  have HB0 : Hid (Below w.heap.size w ((w.alloc (.cells #[.int .i64 f, .slice p1 xs.length c1] 25)).alloc (.cells #[.int .i64 f, .slice p2 xs.length c2] 25))) := (below_one w _).trans ((below_one _ _).mono (by simp))
  have HP1 : Hid (Pb ((w.alloc (.cells #[.int .i64 f, .slice p1 xs.length c1] 25)).alloc (.cells #[.int .i64 f, .slice p2 xs.length c2] 25)) w.heap.size f (.slice p1 xs.length c1)) := (Below.heap_alloc _ _ _ (by simp)).trans (heap_alloc_new w _)
  have HP2 : Hid (Pb ((w.alloc (.cells #[.int .i64 f, .slice p1 xs.length c1] 25)).alloc (.cells #[.int .i64 f, .slice p2 xs.length c2] 25)) (w.heap.size + 1) f (.slice p2 xs.length c2)) := by
    have := heap_alloc_new (w.alloc (.cells #[.int .i64 f, .slice p1 xs.length c1] 25)) (.cells #[.int .i64 f, .slice p2 xs.length c2] 25)
    rw [World.size_alloc] at this
    exact this
  generalize (w.alloc (.cells #[.int .i64 f, .slice p1 xs.length c1] 25)).alloc (.cells #[.int .i64 f, .slice p2 xs.length c2] 25) = W0 at *
  go_loopw [5] (fun s wr => ∃ (k n : Nat), k ≤ xs.length ∧ s = .int .i64 (k : Int) ∧ wr = W0.drewN n) (fun s _ => xs.length - (intOf s).toNat)
  case atStart => exact ⟨0, 0, Nat.zero_le _, rfl, rfl⟩
  case round =>
    obtain ⟨k, n, hk, rfl, hwr⟩ := hrel
    have hB : Below w.heap.size w wr := by rw [hwr]; exact ⟨HB0.out.os, HB0.out.tape, HB0.out.output, HB0.out.size, HB0.out.block⟩
    have hP1 : Pb wr w.heap.size f (.slice p1 xs.length c1) := by rw [hwr]; exact HP1.out
    have hP2 : Pb wr (w.heap.size + 1) f (.slice p2 xs.length c2) := by rw [hwr]; exact HP2.out
    have q1 := hP1.c1
    have q2 := hP2.c1
    have HB := hide hB
    have HWR := hide hwr
    by_cases hlt : k < xs.length
    · obtain ⟨g1, o1, rfl, l1, m1⟩ := HK1.out (by omega)
      obtain ⟨g2, o2, rfl, l2, m2⟩ := HK2.out (by omega)
      have hc1 : ∀ i u, (xs[k]!).cs[i]? = some u → wr.cell? ⟨g1, o1 + k * 6 + i, none⟩ = some u := fun i u hi => (hB.cell (p := ⟨g1, o1 + k * 6 + i, none⟩) l1).trans (m1 k hlt i u hi)
      have hc2 : ∀ i u, (xs[k]!).cs[i]? = some u → wr.cell? ⟨g2, o2 + k * 6 + i, none⟩ = some u := fun i u hi => (hB.cell (p := ⟨g2, o2 + k * 6 + i, none⟩) l2).trans (m2 k hlt i u hi)
      have x0 := hc1 0 _ rfl
      have x1 := hc1 1 _ rfl
      have x2 := hc1 2 _ rfl
      have x3 := hc1 3 _ rfl
      have x4 := hc1 4 _ rfl
      have x5 := hc1 5 _ rfl
      have y0 := hc2 0 _ rfl
      have y1 := hc2 1 _ rfl
      have y2 := hc2 2 _ rfl
      have y3 := hc2 3 _ rfl
      have y4 := hc2 4 _ rfl
      have y5 := hc2 5 _ rfl
      simp only [Nat.add_zero] at x0 y0
      generalize xs[k]! = x at *
      have hq := neqI_self x
      have hgd : ∀ y z w, (eqGuard .neq 39 y z (.agg #[.int .i64 x.op, .int .i64 x.a, .int .i64 x.b, .int .i64 x.c, .int .i64 x.n, .int .u64 (x.k : Int)]) (.agg #[.int .i64 x.op, .int .i64 x.a, .int .i64 x.b, .int .i64 x.c, .int .i64 x.n, .int .u64 (x.k : Int)])).run Tryz.prog w = .ok () w := fun y z w => guardI _ _ _ _ _ w
      have hki : (k : Int) < (xs.length : Int) := by omega
      clear m1 m2 hc1 hc2 hP1 hP2 hB hwr
      go_wp2_with fail
      go_quiet (fail)
      go_wp2
      go_roundw
      case rel => exact ⟨k + 1, n + nq, by omega, by go_num, by rw [HWR.out]; simp [World.drewN, Nat.add_assoc]⟩
      case measure => simp [intOf]; omega
    · obtain rfl : k = xs.length := by omega
      have hki : ¬ (xs.length : Int) < (xs.length : Int) := by omega
      clear hP1 hP2 hB hwr
      go_wp2
      go_ret
      exact ⟨rfl, HB.out⟩
end Go.Proofs.YthfbkpkogihcbabGreatDoor
end

section
namespace Go.Proofs.YthfbkpkogihcbabGreatDoor
open Go.RowKit Go.Shelf

theorem check_ex (v : Value) (w : World) (h : Cd w v exI) : Calls Tryz.prog 8 #[.agg #[.int .i64 9, v]] w fun e w' => e = .returned (.tuple #[.int .i64 0, .int .i64 0]) ∧ Below w.heap.size w w' := by
  have := check_any 9 exI exI_k v w h; rw [ex_check] at this; exact this
theorem print_ex (v : Value) (w : World) (h : Cd w v exI) (hT : Libs w) : Calls Tryz.prog 9 #[.agg #[.int .i64 9, v]] w fun e w' => e = .returned (.tuple #[.string ⟨#[102, 117, 101, 108, 32, 57, 10, 115, 101, 116, 32, 114, 48, 32, 51, 112, 45, 49, 10, 101, 109, 105, 116, 32, 114, 48, 10, 106, 117, 109, 112, 32, 51, 10]⟩, .int .i64 0]) ∧ Below w.heap.size w w' := by
  have := print_any 9 exI exI_k v w h hT.tabs; rw [ex_check, ex_print] at this; exact this
theorem pack_ex (v : Value) (w : World) (h : Cd w v exI) : Calls Tryz.prog 11 #[.agg #[.int .i64 9, v]] w fun e w' => e = .returned (.tuple #[.string ⟨#[9, 3, 1, 0, 63, 248, 0, 0, 0, 0, 0, 0, 21, 0, 14, 3]⟩, .int .i64 0]) ∧ Below w.heap.size w w' := by
  have := pack_any 9 exI exI_k v w h; rw [ex_check, ex_pack] at this; exact this
theorem parse_ex (w : World) (hT : Libs w) : Calls Tryz.prog 7 #[.string ⟨#[102, 117, 101, 108, 32, 57, 10, 115, 101, 116, 32, 114, 48, 32, 51, 112, 45, 49, 10, 101, 109, 105, 116, 32, 114, 48, 10, 106, 117, 109, 112, 32, 51, 10]⟩] w fun e w' => ∃ v, e = .returned (.tuple #[.agg #[.int .i64 9, v], .int .i64 0, .int .i64 0]) ∧ Cd w' v exI ∧ Below w.heap.size w w' := by
  have := parseText_any ⟨#[102, 117, 101, 108, 32, 57, 10, 115, 101, 116, 32, 114, 48, 32, 51, 112, 45, 49, 10, 101, 109, 105, 116, 32, 114, 48, 10, 106, 117, 109, 112, 32, 51, 10]⟩ (by decide) w hT
  rw [ex_parse] at this
  exact this.mono fun e w' ⟨v, h1, h2, h3⟩ => ⟨v, h1, own_cd h2, h3⟩
theorem unpack_ex (w : World) : Calls Tryz.prog 10 #[.string ⟨#[9, 3, 1, 0, 63, 248, 0, 0, 0, 0, 0, 0, 21, 0, 14, 3]⟩] w fun e w' => ∃ v, e = .returned (.tuple #[.agg #[.int .i64 9, v], .int .i64 0]) ∧ Cd w' v exI ∧ Below w.heap.size w w' := by
  have := unpack_any ⟨#[9, 3, 1, 0, 63, 248, 0, 0, 0, 0, 0, 0, 21, 0, 14, 3]⟩ w
  rw [ex_unpack] at this
  exact this.mono fun e w' ⟨v, h1, h2, h3⟩ => ⟨v, h1, own_cd h2, h3⟩
theorem cd_slice {w : World} {v : Value} {xs : List In} (h : Cd w v xs) : ∃ ad cap, v = .slice ad xs.length cap := by
  obtain ⟨p, cap, hv, _⟩ := h
  exact ⟨p, cap, hv⟩
theorem Cd.drew {w : World} {v : Value} {xs : List In} (h : Cd w v xs) : Cd w.drew v xs := ⟨h.form⟩
set_option maxRecDepth 20000 in
set_option maxHeartbeats 400000 in
theorem known_true (w : World) (hT : Libs w) : Calls Tryz.prog 12 #[] w fun e w' => e = .returned (.bool true) ∧ Below w.heap.size w w' := by
  have HT := hide hT
  clear hT
  go_enter Tryz.func12, Tryz.ntmps12
  go_wp2_with fail
  refine (example_any w).mono ?_
  rintro e w1 ⟨v1, rfl, hC1, hb1⟩
  go_wp2_with fail
  refine (check_ex v1 w1 hC1).mono ?_
  rintro e w2 ⟨rfl, hb2⟩
  have HB2 : Hid (Below w.heap.size w w2) := hb1.trans (hb2.mono hb1.size)
  clear hb1 hb2 hC1
  go_wp2_with fail
  refine (example_any w2).mono ?_
  rintro e w3 ⟨v3, rfl, hC3, hb3⟩
  have HB3 : Hid (Below w.heap.size w w3) := HB2.out.trans (hb3.mono HB2.out.size)
  clear hb3 HB2
  go_wp2_with fail
  refine (print_ex v3 w3 hC3 (HT.out.below HB3.out (Nat.le_refl _))).mono ?_
  rintro e w4 ⟨rfl, hb4⟩
  have HB4 : Hid (Below w.heap.size w w4) := HB3.out.trans (hb4.mono HB3.out.size)
  clear hb4 HB3 hC3
  go_wp2_with fail
  refine (parse_ex w4 (HT.out.below HB4.out (Nat.le_refl _))).mono ?_
  rintro e w5 ⟨v5, rfl, hC5, hb5⟩
  have HB5 : Hid (Below w.heap.size w w5) := HB4.out.trans (hb5.mono HB4.out.size)
  clear hb5 HB4
  obtain ⟨ad5, cap5, rfl⟩ := cd_slice hC5
  have HC5 := hide (hC5.below (below_one w5 (.cells #[.int .i64 9, .slice ad5 exI.length cap5] 25)) (Nat.le_refl _))
  clear hC5
  go_wp2_with fail
  have HP6 : Hid (Pb (w5.alloc (.cells #[.int .i64 9, .slice ad5 exI.length cap5] 25)) w5.heap.size 9 (.slice ad5 exI.length cap5)) := heap_alloc_new w5 _
  have HB6 := hide (HB5.out.alloc HB5.out.size (.cells #[.int .i64 9, .slice ad5 exI.length cap5] 25))
  clear HB5
  refine (example_any _).mono ?_
  rintro e w7 ⟨v7, rfl, hC7, hb7⟩
  have HP7 := hide (HP6.out.grown (grown_below hb7 none) (by simp))
  have HC57 := hide (HC5.out.below hb7 (Nat.le_refl _))
  have HB7 : Hid (Below w.heap.size w w7) := HB6.out.trans (hb7.mono HB6.out.size)
  clear hb7 HP6 HB6 HC5
  go_wp2_with fail
  refine (pack_ex v7 w7 hC7).mono ?_
  rintro e w8 ⟨rfl, hb8⟩
  have HP8 := hide (HP7.out.grown (grown_below hb8 none) (by simp))
  have HC58 := hide (HC57.out.below hb8 (Nat.le_refl _))
  have HB8 : Hid (Below w.heap.size w w8) := HB7.out.trans (hb8.mono HB7.out.size)
  clear hb8 HP7 HB7 HC57 hC7
  go_wp2_with fail
  refine (unpack_ex w8).mono ?_
  rintro e w9 ⟨v9, rfl, hC9, hb9⟩
  obtain ⟨ad9, cap9, rfl⟩ := cd_slice hC9
  have HP9 := hide (HP8.out.grown (grown_below hb9 none) (by simp))
  have HC59 := hide (HC58.out.below hb9 (Nat.le_refl _))
  have HB9 : Hid (Below w.heap.size w w9) := HB8.out.trans (hb9.mono HB8.out.size)
  have HPa := hide (HP9.out.grown (grown_one w9 (.cells #[.int .i64 9, .slice ad9 exI.length cap9] 25) none) (by simp))
  have HCa := hide (HC59.out.below (below_one w9 (.cells #[.int .i64 9, .slice ad9 exI.length cap9] 25)) (Nat.le_refl _))
  have HBa := hide (HB9.out.alloc HB9.out.size (.cells #[.int .i64 9, .slice ad9 exI.length cap9] 25))
  have HCb := hide (hC9.below (below_one w9 (.cells #[.int .i64 9, .slice ad9 exI.length cap9] 25)) (Nat.le_refl _))
  have HPb : Hid (Pb (w9.alloc (.cells #[.int .i64 9, .slice ad9 exI.length cap9] 25)) w9.heap.size 9 (.slice ad9 exI.length cap9)) := heap_alloc_new w9 _
  clear hb9 HP8 HB8 HC58 hC9 HP9 HC59 HB9
  go_wp2_with fail
  generalize w9.alloc (.cells #[.int .i64 9, .slice ad9 exI.length cap9] 25) = wa at *
  have a0 := HPa.out.c0
  have a1 := HPa.out.c1
  have b0 := HPb.out.c0
  have b1 := HPb.out.c1
  have HTok : Hid True := trivial
  have HTok2 : Hid True := trivial
  go_region_held3 (fun w' => w'.cell? ⟨w5.heap.size, 0, none⟩ = some (.int .i64 9) ∧ w'.cell? ⟨w5.heap.size, 1, none⟩ = some (.slice ad5 exI.length cap5) ∧ w'.cell? ⟨w9.heap.size, 0, none⟩ = some (.int .i64 9) ∧ w'.cell? ⟨w9.heap.size, 1, none⟩ = some (.slice ad9 exI.length cap9)) (go_keep) (first
    | (go_at_call 29; clear HTok; refine (example_any _).mono ?_; rintro e wb ⟨vb, rfl, hCb, hbb⟩; have HBb := hide hbb; have HCbb := hide hCb; have u0 := (hbb.cell (World.block_lt_of_cell? _ _ a0)).trans a0; have u1 := (hbb.cell (World.block_lt_of_cell? _ _ a1)).trans a1; have u2 := (hbb.cell (World.block_lt_of_cell? _ _ b0)).trans b0; have u3 := (hbb.cell (World.block_lt_of_cell? _ _ b1)).trans b1; clear hbb hCb)
    | (go_at_call 30; clear HTok2; refine (same_self 9 exI (.slice ad5 exI.length cap5) vb wb (HCa.out.drew.below HBb.out (Nat.le_refl _)) HCbb.out (by decide)).mono ?_; rintro e wc ⟨rfl, hbc⟩; have HBc := hide hbc; have t0 := (hbc.cell (World.block_lt_of_cell? _ _ u0)).trans u0; have t1 := (hbc.cell (World.block_lt_of_cell? _ _ u1)).trans u1; have t2 := (hbc.cell (World.block_lt_of_cell? _ _ u2)).trans u2; have t3 := (hbc.cell (World.block_lt_of_cell? _ _ u3)).trans u3; clear hbc)
    | (go_at_call 29; refine (example_any _).mono ?_; rintro e wd ⟨vd, rfl, hCd, hbd⟩; have HBd := hide hbd; have HCd := hide hCd; have s0 := (hbd.cell (World.block_lt_of_cell? _ _ t0)).trans t0; have s1 := (hbd.cell (World.block_lt_of_cell? _ _ t1)).trans t1; have s2 := (hbd.cell (World.block_lt_of_cell? _ _ t2)).trans t2; have s3 := (hbd.cell (World.block_lt_of_cell? _ _ t3)).trans t3; clear hbd hCd)
    | (go_at_call 30; refine (same_self 9 exI (.slice ad9 exI.length cap9) vd wd (((HCb.out.drew.below HBb.out (Nat.le_refl _)).below HBc.out (Nat.le_refl _)).below HBd.out (Nat.le_refl _)) HCd.out (by decide)).mono ?_; rintro e we ⟨rfl, hbe⟩; have HBe := hide hbe; have r0 := (hbe.cell (World.block_lt_of_cell? _ _ s0)).trans s0; have r1 := (hbe.cell (World.block_lt_of_cell? _ _ s1)).trans s1; have r2 := (hbe.cell (World.block_lt_of_cell? _ _ s2)).trans s2; have r3 := (hbe.cell (World.block_lt_of_cell? _ _ s3)).trans s3; clear hbe))
  go_wp2
  go_ret
  have h1 : Below w.heap.size w wa.drew := HBa.out.drew
  have h2 := h1.trans (HBb.out.mono h1.size)
  have h3 := h2.trans (HBc.out.mono h2.size)
  have h4 := h3.trans (HBd.out.mono h3.size)
  exact ⟨rfl, h4.trans (HBe.out.mono h4.size)⟩
end Go.Proofs.YthfbkpkogihcbabGreatDoor
end

section
namespace Go.Proofs.YthfbkpkogihcbabGreatDoor
open Go.RowKit Go.Shelf

theorem cd_nil (w : World) : Cd w (.slice none 0 0) [] := ⟨⟨none, 0, rfl, fun h => by cases h⟩⟩
theorem check_zero (w : World) : Calls Tryz.prog 8 #[.agg #[.int .i64 0, .slice none 0 0]] w fun e w' => e = .returned (.tuple #[.int .i64 56, .int .i64 0]) ∧ Below w.heap.size w w' := by
  have := check_any 0 [] (fun x hx => by cases hx) _ w (cd_nil w); rw [ex_zero] at this; exact this
theorem parse_zero (w : World) (hT : Libs w) : Calls Tryz.prog 7 #[.string ⟨#[]⟩] w fun e w' => ∃ ad cap, e = .returned (.tuple #[.agg #[.int .i64 0, .slice ad 0 cap], .int .i64 55, .int .i64 1]) ∧ Below w.heap.size w w' := by
  have := parseText_any ⟨#[]⟩ (by decide) w hT
  rw [ex_none] at this
  refine this.mono ?_
  rintro e w' ⟨v, h1, h2, h3⟩
  obtain ⟨ad, cap, rfl⟩ := own_slice h2
  exact ⟨ad, cap, h1, h3⟩
theorem unpack_zero (w : World) : Calls Tryz.prog 10 #[.string ⟨#[]⟩] w fun e w' => ∃ ad cap, e = .returned (.tuple #[.agg #[.int .i64 0, .slice ad 0 cap], .int .i64 54]) ∧ Below w.heap.size w w' := by
  have := unpack_any ⟨#[]⟩ w
  rw [ex_empty] at this
  refine this.mono ?_
  rintro e w' ⟨v, h1, h2, h3⟩
  obtain ⟨ad, cap, rfl⟩ := own_slice h2
  exact ⟨ad, cap, h1, h3⟩
set_option maxRecDepth 20000 in
set_option maxHeartbeats 1000000 in
theorem names_true (w : World) (hT : Libs w) : Calls Tryz.prog 13 #[] w fun e w' => e = .returned (.bool true) ∧ Below w.heap.size w w' := by
  have HT := hide hT
  clear hT
  go_enter Tryz.func13, Tryz.ntmps13
  go_wp2_with fail
  refine (check_zero w).mono ?_
  rintro e w1 ⟨rfl, hb1⟩
  have HB1 := hide hb1
  clear hb1
  go_wp2_with fail
  refine (parse_zero w1 (HT.out.below HB1.out (Nat.le_refl _))).mono ?_
  rintro e w2 ⟨ad, cap, rfl, hb2⟩
  have HB2 : Hid (Below w.heap.size w w2) := HB1.out.trans (hb2.mono HB1.out.size)
  have HB3 := hide (HB2.out.alloc HB2.out.size (.cells #[.int .i64 0, .slice ad 0 cap] 25))
  clear hb2 HB1 HB2
  go_wp2_with fail
  refine (unpack_zero _).mono ?_
  rintro e w4 ⟨ad4, cap4, rfl, hb4⟩
  have HB4 : Hid (Below w.heap.size w w4) := HB3.out.trans (hb4.mono HB3.out.size)
  have HB5 := hide (HB4.out.alloc HB4.out.size (.cells #[.int .i64 0, .slice ad4 0 cap4] 25))
  clear hb4 HB3 HB4
  go_wp2_with fail
  refine (known_true _ (HT.out.below HB5.out (Nat.le_refl _))).mono ?_
  rintro e w6 ⟨rfl, hb6⟩
  have HB6 : Hid (Below w.heap.size w w6) := HB5.out.trans (hb6.mono HB5.out.size)
  clear hb6 HB5
  go_wp2
  go_ret
  exact ⟨rfl, HB6.out⟩
set_option maxHeartbeats 1000000 in
theorem awake_true (w : World) (hT : Libs w) : Calls Tryz.prog 6 #[] w fun e w' => e = .returned (.bool true) ∧ Below w.heap.size w w' := by
  have HT := hide hT
  clear hT
  go_enter Tryz.func6, Tryz.ntmps6
  go_wp2_with fail
  refine (known_true w HT.out).mono ?_
  rintro e w1 ⟨rfl, hb1⟩
  have HB1 := hide hb1
  clear hb1
  go_wp2_with fail
  refine (names_true w1 (HT.out.below HB1.out (Nat.le_refl _))).mono ?_
  rintro e w2 ⟨rfl, hb2⟩
  have HB2 : Hid (Below w.heap.size w w2) := HB1.out.trans (hb2.mono HB1.out.size)
  clear hb2 HB1
  go_wp2
  go_ret
  exact ⟨rfl, HB2.out⟩
end Go.Proofs.YthfbkpkogihcbabGreatDoor
end

section
namespace Go.Proofs.YthfbkpkogihcbabGreatDoor
open Go.RowKit Go.Shelf

namespace Pg
def words : List ByteArray := [⟨#[]⟩, ⟨#[115, 101, 116]⟩, ⟨#[109, 111, 118, 101]⟩, ⟨#[97, 100, 100]⟩, ⟨#[115, 117, 98]⟩, ⟨#[109, 117, 108]⟩, ⟨#[100, 105, 118]⟩, ⟨#[109, 105, 110]⟩, ⟨#[109, 97, 120]⟩, ⟨#[108, 101, 115, 115]⟩, ⟨#[111, 114, 100, 101, 114]⟩, ⟨#[110, 101, 103]⟩, ⟨#[97, 98, 115]⟩, ⟨#[102, 108, 111, 111, 114]⟩, ⟨#[106, 117, 109, 112]⟩, ⟨#[105, 102]⟩, ⟨#[103, 111, 116, 111]⟩, ⟨#[99, 97, 108, 108]⟩, ⟨#[114, 101, 116]⟩, ⟨#[112, 117, 115, 104]⟩, ⟨#[112, 111, 112]⟩, ⟨#[101, 109, 105, 116]⟩, ⟨#[119, 114, 105, 116, 101]⟩, ⟨#[102, 97, 105, 108]⟩, ⟨#[104, 97, 108, 116]⟩]
def wordP (op : Int) : ByteArray := if op < 0 ∨ 25 ≤ op then ⟨#[]⟩ else words[op.toNat]!
def hasP (op : Int) : Nat × Bool × Bool := if op = 1 then (1, false, true) else if op = 2 ∨ op = 11 ∨ op = 12 ∨ op = 13 then (2, false, false) else if op = 3 ∨ op = 4 ∨ op = 5 ∨ op = 6 ∨ op = 7 ∨ op = 8 ∨ op = 9 ∨ op = 10 then (3, false, false) else if op = 14 ∨ op = 17 then (0, true, false) else if op = 15 then (1, true, false) else if op = 16 ∨ op = 19 ∨ op = 20 ∨ op = 21 ∨ op = 22 ∨ op = 23 then (1, false, false) else (0, false, false)
end Pg
theorem words_cell (w : World) : ∀ j, j < 25 → (w.alloc (.cells (Pg.words.map Value.string).toArray 9)).cell? ⟨w.heap.size, j, none⟩ = some (.string Pg.words[j]!) := by
  intro j hj
  rw [World.cell?_alloc_at _ _ _ _ rfl]
  show (Pg.words.map Value.string).toArray[j]? = _
  rw [List.getElem?_toArray, List.getElem?_map, List.getElem?_eq_getElem (show j < Pg.words.length from hj), getElem!_pos Pg.words j hj]
  rfl
end Go.Proofs.YthfbkpkogihcbabGreatDoor
end

section
namespace Go.Proofs.YthfbkpkogihcbabGreatDoor
open Go.RowKit Go.Shelf

namespace Pg
def regE (r i : Nat) (v : Int) : Int := if r ≤ i then (if v ≠ 0 then 54 else 0) else if v < 0 ∨ 7 < v then 52 else 0
def nE (nb : Bool) (n : Int) (many : Nat) : Int := if nb then (if n < 0 ∨ (many : Int) < n then 53 else 0) else if n ≠ 0 then 54 else 0
def kE (kb : Bool) (k : Nat) : Int := if kb then (if Gn.canonW k ≠ k then 54 else 0) else if k ≠ 0 then 54 else 0
def abc (x : In) (i : Nat) : Int := if i = 0 then x.a else if i = 1 then x.b else x.c
def regsE (r : Nat) (x : In) : List Nat → Int
  | [] => 0
  | i :: t => if regE r i (abc x i) ≠ 0 then regE r i (abc x i) else regsE r x t
def wrongP (h : Nat × Bool × Bool) (x : In) (many : Nat) : Int := if regsE h.1 x [0, 1, 2] ≠ 0 then regsE h.1 x [0, 1, 2] else if nE h.2.1 x.n many ≠ 0 then nE h.2.1 x.n many else kE h.2.2 x.k
end Pg
theorem regs_step (r : Nat) (x : In) : ∀ i, i < 3 → Pg.regsE r x (([0, 1, 2] : List Nat).drop i) = if Pg.regE r i (Pg.abc x i) ≠ 0 then Pg.regE r i (Pg.abc x i) else Pg.regsE r x (([0, 1, 2] : List Nat).drop (i + 1))
  | 0, _ => rfl
  | 1, _ => rfl
  | 2, _ => rfl
  | i + 3, h => by omega
end Go.Proofs.YthfbkpkogihcbabGreatDoor
end

section
namespace Go.Proofs.YthfbkpkogihcbabGreatDoor
open Go.RowKit Go.Shelf

theorem un_of (v : Int) (h : -9223372036854775808 ≤ v ∧ v ≤ 9223372036854775807) : (0 ≤ v → (Pg.un v : Int) = v) ∧ (v < 0 → 9223372036854775808 ≤ Pg.un v) := by
  unfold Pg.un
  constructor
  · intro h0; omega
  · intro h0; omega
theorem named_reg (v : Int) (h : -9223372036854775808 ≤ v ∧ v ≤ 9223372036854775807) (l many : Nat) (h1 : l ≠ 75) (h2 : l ≠ 78) : Pg.namedE (Pg.un v) l many = if v < 0 ∨ 7 < v then 52 else 0 := by
  have := un_of v h
  unfold Pg.namedE
  rw [if_neg h1, if_neg h2]
  by_cases h0 : v < 0
  · rw [if_pos (by have := this.2 h0; omega), if_pos (.inl h0)]
  · have h3 := this.1 (by omega)
    by_cases h7 : 7 < v
    · rw [if_pos (by omega), if_pos (.inr h7)]
    · rw [if_neg (by omega), if_neg (by omega)]
theorem unnamed_reg (v : Int) (h : -9223372036854775808 ≤ v ∧ v ≤ 9223372036854775807) : Pg.unnamedE (Pg.un v) = if v ≠ 0 then 54 else 0 := by
  have := un_of v h
  unfold Pg.unnamedE
  by_cases h0 : v = 0
  · subst h0; rfl
  · rw [if_pos h0]
    refine if_pos ?_
    by_cases h1 : v < 0
    · have := this.2 h1; omega
    · have := this.1 (by omega); omega
theorem named_n (v : Int) (h : -9223372036854775808 ≤ v ∧ v ≤ 9223372036854775807) (many : Nat) (hm : many ≤ 64) : Pg.namedE (Pg.un v) 78 many = if v < 0 ∨ (many : Int) < v then 53 else 0 := by
  have := un_of v h
  unfold Pg.namedE
  rw [if_neg (by decide), if_pos rfl]
  by_cases h0 : v < 0
  · rw [if_pos (by have := this.2 h0; omega), if_pos (.inl h0)]
  · have h3 := this.1 (by omega)
    by_cases h7 : (many : Int) < v
    · rw [if_pos (by omega), if_pos (.inr h7)]
    · rw [if_neg (by omega), if_neg (by omega)]
theorem field_reg (fs : ByteArray) (x : In) (many l i r : Nat) (v : Int) (hg : Pg.get x l = Pg.un v) (hv : -9223372036854775808 ≤ v ∧ v ≤ 9223372036854775807) (h1 : l ≠ 75) (h2 : l ≠ 78) (hh : Pg.has fs l = decide (i < r)) : Pg.fieldE fs x many l = Pg.regE r i v := by
  unfold Pg.fieldE Pg.regE
  rw [hg, hh]
  by_cases hr : r ≤ i
  · rw [decide_eq_false (by omega), if_pos hr]
    exact unnamed_reg v hv
  · rw [decide_eq_true (by omega), if_neg hr]
    exact named_reg v hv l many h1 h2
theorem insE_of (fs : ByteArray) (x : In) (hx : x.Fits) (many : Nat) (hm : many ≤ 64) (r : Nat) (nb kb : Bool) (hA : Pg.has fs 65 = decide (0 < r)) (hB : Pg.has fs 66 = decide (1 < r)) (hC : Pg.has fs 67 = decide (2 < r)) (hN : Pg.has fs 78 = nb) (hK : Pg.has fs 75 = kb) :
    Pg.firstE fs x many [65, 66, 67, 78, 75] = Pg.wrongP (r, nb, kb) x many := by
  have eA := field_reg fs x many 65 0 r x.a rfl hx.a (by decide) (by decide) hA
  have eB := field_reg fs x many 66 1 r x.b rfl hx.b (by decide) (by decide) hB
  have eC := field_reg fs x many 67 2 r x.c rfl hx.c (by decide) (by decide) hC
  have eN : Pg.fieldE fs x many 78 = Pg.nE nb x.n many := by
    unfold Pg.fieldE Pg.nE
    rw [hN, show Pg.get x 78 = Pg.un x.n from rfl]
    cases nb with
    | true => exact named_n x.n hx.n many hm
    | false => exact unnamed_reg x.n hx.n
  have eK : Pg.fieldE fs x many 75 = Pg.kE kb x.k := by
    unfold Pg.fieldE Pg.kE
    rw [hK, show Pg.get x 75 = x.k from rfl]
    cases kb <;> rfl
  have hF : Pg.firstE fs x many [65, 66, 67, 78, 75] = if Pg.fieldE fs x many 65 ≠ 0 then Pg.fieldE fs x many 65 else if Pg.fieldE fs x many 66 ≠ 0 then Pg.fieldE fs x many 66 else if Pg.fieldE fs x many 67 ≠ 0 then Pg.fieldE fs x many 67 else if Pg.fieldE fs x many 78 ≠ 0 then Pg.fieldE fs x many 78 else if Pg.fieldE fs x many 75 ≠ 0 then Pg.fieldE fs x many 75 else 0 := rfl
  have hG : Pg.regsE r x [0, 1, 2] = if Pg.regE r 0 x.a ≠ 0 then Pg.regE r 0 x.a else if Pg.regE r 1 x.b ≠ 0 then Pg.regE r 1 x.b else if Pg.regE r 2 x.c ≠ 0 then Pg.regE r 2 x.c else 0 := rfl
  unfold Pg.wrongP
  rw [hF, hG, eA, eB, eC, eN, eK]
  generalize Pg.regE r 0 x.a = a
  generalize Pg.regE r 1 x.b = b
  generalize Pg.regE r 2 x.c = c
  generalize Pg.kE kb x.k = k
  generalize Pg.nE nb x.n many = n
  by_cases ha : a = 0
  · by_cases hb : b = 0
    · by_cases hc : c = 0
      · by_cases hn : n = 0
        · by_cases hk : k = 0 <;> simp [ha, hb, hc, hn, hk]
        · simp [ha, hb, hc, hn]
      · simp [ha, hb, hc]
    · simp [ha, hb]
  · simp [ha]
theorem shape_none (op : Int) (h : ¬ (1 ≤ op ∧ op ≤ 24)) : (Pg.shape op).2 = false := by
  unfold Pg.shape Pg.find
  have : Pg.tbl.findIdx? (fun s => s.op == op) = none := by
    rw [List.findIdx?_eq_none_iff]
    intro s hs
    have : ∀ s ∈ Pg.tbl, 1 ≤ s.op ∧ s.op ≤ 24 := by
      intro s hs
      have h1 : Pg.tbl.all (fun s => decide (1 ≤ s.op ∧ s.op ≤ 24)) = true := by decide
      simpa using List.all_eq_true.1 h1 s hs
    have := this s hs
    rw [beq_eq_false_iff_ne]
    omega
  rw [this]
theorem insE_ref (x : In) (hx : x.Fits) (many : Nat) (hm : many ≤ 64) : Pg.insE x many = if (Pg.wordP x.op).toList = [] then 51 else Pg.wrongP (Pg.hasP x.op) x many := by
  unfold Pg.insE
  by_cases h : 1 ≤ x.op ∧ x.op ≤ 24
  · have hc : ∃ n : Fin 24, x.op = ((n.val + 1 : Nat) : Int) := ⟨⟨x.op.toNat - 1, by omega⟩, by show x.op = ((x.op.toNat - 1 + 1 : Nat) : Int); omega⟩
    obtain ⟨n, hn⟩ := hc
    have hall : ∀ n : Fin 24, (Pg.shape ((n.val + 1 : Nat) : Int)).2 = true ∧ (Pg.wordP ((n.val + 1 : Nat) : Int)).size ≠ 0 ∧ Pg.has (Pg.shape ((n.val + 1 : Nat) : Int)).1.flds 65 = decide (0 < (Pg.hasP ((n.val + 1 : Nat) : Int)).1) ∧ Pg.has (Pg.shape ((n.val + 1 : Nat) : Int)).1.flds 66 = decide (1 < (Pg.hasP ((n.val + 1 : Nat) : Int)).1) ∧ Pg.has (Pg.shape ((n.val + 1 : Nat) : Int)).1.flds 67 = decide (2 < (Pg.hasP ((n.val + 1 : Nat) : Int)).1) ∧ Pg.has (Pg.shape ((n.val + 1 : Nat) : Int)).1.flds 78 = (Pg.hasP ((n.val + 1 : Nat) : Int)).2.1 ∧ Pg.has (Pg.shape ((n.val + 1 : Nat) : Int)).1.flds 75 = (Pg.hasP ((n.val + 1 : Nat) : Int)).2.2 := by decide
    obtain ⟨h1, h2, h3, h4, h5, h6, h7⟩ := hall n
    rw [← hn] at h1 h2 h3 h4 h5 h6 h7
    rw [if_neg (by rw [h1]; simp), if_neg (fun e => h2 (by have := congrArg List.length e; rwa [size_list] at this))]
    exact insE_of _ x hx many hm _ _ _ h3 h4 h5 h6 h7
  · rw [if_pos (shape_none x.op h)]
    have : Pg.wordP x.op = ⟨#[]⟩ := by
      unfold Pg.wordP
      by_cases h0 : x.op < 0 ∨ 25 ≤ x.op
      · rw [if_pos h0]
      · rw [if_neg h0, show x.op = 0 by omega]; rfl
    rw [this, if_pos (by rw [ByteArray.toList_eq])]
end Go.Proofs.YthfbkpkogihcbabGreatDoor
end

section
namespace Go.Proofs.YthfbkpkogihcbabGreatDoor
open Go.RowKit Go.Shelf

end Go.Proofs.YthfbkpkogihcbabGreatDoor
end

section
namespace Go.Proofs.YthfbkpkogihcbabGreatDoor
open Go.RowKit Go.Shelf

theorem big8_bc (n : Nat) (hn : n < 18446744073709551616) : bc (Pk.big8 n) = [.int .u8 ((n : Int) / 72057594037927936), .int .u8 ((n : Int) / 281474976710656 % 256), .int .u8 ((n : Int) / 1099511627776 % 256), .int .u8 ((n : Int) / 4294967296 % 256), .int .u8 ((n : Int) / 16777216 % 256), .int .u8 ((n : Int) / 65536 % 256), .int .u8 ((n : Int) / 256 % 256), .int .u8 ((n : Int) % 256)] := by
  have e : ∀ x : Nat, (UInt8.ofNat (x % 256)).toNat = x % 256 := fun x => Pk.toNat_ofNat (Nat.mod_lt _ (by decide))
  simp only [bc, Pk.big8, List.map_cons, List.map_nil, e]
  have e0 : ((n / 72057594037927936 % 256 : Nat) : Int) = (n : Int) / 72057594037927936 := by omega
  rw [e0]
  rfl

namespace Pg
def fl (h : Nat × Bool × Bool) : List UInt8 := ([65, 66, 67] : List UInt8).take h.1 ++ ((if h.2.1 then [78] else []) ++ (if h.2.2 then [75] else []))
end Pg
theorem fl_all : ∀ n : Fin 24, (Pg.shape ((n.val + 1 : Nat) : Int)).1.flds.data.toList = Pg.fl (Pg.hasP ((n.val + 1 : Nat) : Int)) ∧ (Pg.shape ((n.val + 1 : Nat) : Int)).1.word = Pg.wordP ((n.val + 1 : Nat) : Int) ∧ (Pg.hasP ((n.val + 1 : Nat) : Int)).1 ≤ 3 := by decide
theorem goE_zero (many : Nat) : ∀ (xs : List In) (i : Nat), (Pg.goE many xs i).1 = 0 → ∀ x ∈ xs, Pg.insE x many = 0
  | [], _, _ => by intro x hx; cases hx
  | x :: r, i, h => by
    unfold Pg.goE at h
    by_cases hx : Pg.insE x many = 0
    · rw [if_neg (by simp [hx])] at h
      intro y hy
      rcases List.mem_cons.1 hy with rfl | hy
      · exact hx
      · exact goE_zero many r (i + 1) h y hy
    · rw [if_pos hx] at h
      exact absurd h hx
theorem check_ins (f : Int) (xs : List In) (h : (Pg.checkE f xs).1 = 0) : ∀ x ∈ xs, Pg.insE x xs.length = 0 := by
  unfold Pg.checkE at h
  split at h
  · cases h
  split at h
  · cases h
  exact goE_zero _ _ _ h
theorem ins_op (x : In) (many : Nat) (h : Pg.insE x many = 0) : ∃ n : Fin 24, x.op = ((n.val + 1 : Nat) : Int) := by
  by_cases h1 : 1 ≤ x.op ∧ x.op ≤ 24
  · exact ⟨⟨x.op.toNat - 1, by omega⟩, by show x.op = ((x.op.toNat - 1 + 1 : Nat) : Int); omega⟩
  · unfold Pg.insE at h
    rw [if_pos (shape_none x.op h1)] at h
    cases h
theorem ins_fl (x : In) (many : Nat) (h : Pg.insE x many = 0) : (Pg.shape x.op).1.flds.data.toList = Pg.fl (Pg.hasP x.op) ∧ (Pg.shape x.op).1.word = Pg.wordP x.op ∧ (Pg.hasP x.op).1 ≤ 3 := by
  obtain ⟨n, hn⟩ := ins_op x many h
  rw [hn]; exact fl_all n
theorem goB_app (x : In) : ∀ (l m : List UInt8) (acc : ByteArray), Pg.goB x (l ++ m) acc = Pg.goB x m (Pg.goB x l acc)
  | [], _, _ => rfl
  | _ :: r, m, _ => goB_app x r m _
theorem goB_pre (x : In) : ∀ (l : List UInt8) (b acc : ByteArray), Pg.goB x l (b ++ acc) = b ++ Pg.goB x l acc
  | [], _, _ => rfl
  | c :: r, b, acc => by unfold Pg.goB; rw [ByteArray.append_assoc]; exact goB_pre x r b _
theorem goB_take (x : In) (j : Nat) (hj : j < 3) (acc : ByteArray) : Pg.goB x (([65, 66, 67] : List UInt8).take (j + 1)) acc = Pg.goB x (([65, 66, 67] : List UInt8).take j) acc ++ ⟨(Pk.enc (Pg.un (Pg.abc x j))).toArray⟩ := by
  match j, hj with
  | 0, _ => rfl
  | 1, _ => rfl
  | 2, _ => rfl
end Go.Proofs.YthfbkpkogihcbabGreatDoor
end

section
namespace Go.Proofs.YthfbkpkogihcbabGreatDoor
open Go.RowKit Go.Shelf

theorem Pk.fold8_big8' (n : Nat) (h : n < 18446744073709551616) : Pk.fold8 (Pk.big8 n) = n := by
  have e : ∀ x : Nat, (UInt8.ofNat (x % 256)).toNat = x % 256 := fun x => Pk.toNat_ofNat (Nat.mod_lt _ (by decide))
  simp only [Pk.fold8, Pk.big8, List.foldl_cons, List.foldl_nil, e]
  omega
theorem rest_app {b : ByteArray} {p : Nat} {l r : List UInt8} (h : rest b p = l ++ r) : rest b (p + l.length) = r := by
  unfold rest at *
  rw [← List.drop_drop, h, List.drop_left]
theorem num_at {b : ByteArray} {p n most : Nat} {r : List UInt8} (h : rest b p = Pk.enc n ++ r) (hn : n ≤ most) (hm : n < 18446744073709551616) : ∃ q, Pg.numS b most (p, 0) = (n, (q, 0)) ∧ rest b q = r := by
  have hd : Pk.dec 0 0 (rest b p) = (0, n, (Pk.enc n).length) := by rw [h, Pk.dec_enc n 0 0 r (by decide) (by simpa using hm) (.inl rfl)]; simp
  refine ⟨p + (Pk.enc n).length, ?_, rest_app h⟩
  unfold Pg.numS
  rw [if_neg (by simp), if_pos (numK_ok hd hn)]
  unfold numV numQ
  rw [hd]
theorem list_at {b : ByteArray} {p n most : Nat} {r : List UInt8} (h : rest b p = Pk.enc n ++ r) (hn : n ≤ most) (hm : n < 18446744073709551616) : ∃ q, Pg.listS b most (p, 0) = (n, (q, 0)) ∧ rest b q = r := by
  have hd : Pk.dec 0 0 (rest b p) = (0, n, (Pk.enc n).length) := by rw [h, Pk.dec_enc n 0 0 r (by decide) (by simpa using hm) (.inl rfl)]; simp
  refine ⟨p + (Pk.enc n).length, ?_, rest_app h⟩
  unfold Pg.listS
  rw [if_neg (by simp), if_pos (numK_ok hd hn)]
  unfold numV numQ
  rw [hd]
theorem bits_at {b : ByteArray} {p k : Nat} {r : List UInt8} (h : rest b p = Pk.big8 k ++ r) (hk : k < 18446744073709551616) : ∃ q, Pg.bitsS b (p, 0) = (k, (q, 0)) ∧ rest b q = r := by
  have h8 : (Pk.big8 k).length = 8 := rfl
  refine ⟨p + 8, ?_, by have := rest_app h; rwa [h8] at this⟩
  have hz : p + 8 ≤ b.size := by
    have h1 := rest_len b p
    rw [h, List.length_append, h8] at h1
    omega
  unfold Pg.bitsS
  rw [if_neg (by simp), if_pos (by unfold bitsK; rw [if_neg (by omega)])]
  unfold bitsV
  rw [h, List.take_left' h8, Pk.fold8_big8' k hk]
namespace Pg
/-- the bytes of the fields that are named -/
def fbs (x : In) (l : List UInt8) : List UInt8 := l.flatMap fun c => (fieldB x c.toNat).data.toList
def sets (x : In) (l : List UInt8) (y : In) : In := l.foldl (fun y c => setF y c.toNat (get x c.toNat)) y
end Pg
theorem goB_list (x : In) : ∀ (l : List UInt8) (acc : ByteArray), (Pg.goB x l acc).data.toList = acc.data.toList ++ Pg.fbs x l
  | [], acc => by unfold Pg.goB Pg.fbs; simp
  | c :: r, acc => by
    unfold Pg.goB
    rw [goB_list x r, ByteArray.data_append, Array.toList_append]
    unfold Pg.fbs
    rw [List.flatMap_cons, List.append_assoc]
theorem flds_at {b : ByteArray} (x : In) (hk : x.k < 18446744073709551616) : ∀ (l : List UInt8) (y : In) (p : Nat) (r : List UInt8), (∀ c ∈ l, c.toNat ≠ 75 → Pg.get x c.toNat ≤ 64) → rest b p = Pg.fbs x l ++ r → ∃ q, Pg.fldsS b l (y, (p, 0)) = (Pg.sets x l y, (q, 0)) ∧ rest b q = r
  | [], y, p, r, _, h => ⟨p, rfl, h⟩
  | c :: t, y, p, r, hok, h => by
    have e : Pg.fbs x (c :: t) = (Pg.fieldB x c.toNat).data.toList ++ Pg.fbs x t := rfl
    rw [e, List.append_assoc] at h
    have hf : ∃ q, Pg.fldS b y c.toNat (p, 0) = (Pg.setF y c.toNat (Pg.get x c.toNat), (q, 0)) ∧ rest b q = Pg.fbs x t ++ r := by
      by_cases h75 : c.toNat = 75
      · have h2 : rest b p = Pk.big8 x.k ++ (Pg.fbs x t ++ r) := by rw [h]; unfold Pg.fieldB; rw [if_pos h75]
        obtain ⟨q, hq, hr⟩ := bits_at h2 hk
        refine ⟨q, ?_, hr⟩
        unfold Pg.fldS
        rw [if_pos h75, hq, h75]
        rfl
      · have h1 := hok c (by simp) h75
        have h2 : rest b p = Pk.enc (Pg.get x c.toNat) ++ (Pg.fbs x t ++ r) := by rw [h]; unfold Pg.fieldB; rw [if_neg h75]
        obtain ⟨q, hq, hr⟩ := num_at h2 h1 (by omega)
        refine ⟨q, ?_, hr⟩
        unfold Pg.fldS
        rw [if_neg h75, hq]
    obtain ⟨q, hq, hr⟩ := hf
    obtain ⟨q2, hq2, hr2⟩ := flds_at x hk t (Pg.setF y c.toNat (Pg.get x c.toNat)) q r (fun d hd => hok d (by simp [hd])) hr
    refine ⟨q2, ?_, hr2⟩
    unfold Pg.fldsS
    rw [hq]
    exact hq2
theorem wrong_zero {h : Nat × Bool × Bool} {x : In} {many : Nat} (e : Pg.wrongP h x many = 0) : Pg.regE h.1 0 x.a = 0 ∧ Pg.regE h.1 1 x.b = 0 ∧ Pg.regE h.1 2 x.c = 0 ∧ Pg.nE h.2.1 x.n many = 0 ∧ Pg.kE h.2.2 x.k = 0 := by
  unfold Pg.wrongP at e
  by_cases h1 : Pg.regsE h.1 x [0, 1, 2] = 0
  · rw [if_neg (by simp [h1])] at e
    by_cases h2 : Pg.nE h.2.1 x.n many = 0
    · rw [if_neg (by simp [h2])] at e
      have hG : Pg.regsE h.1 x [0, 1, 2] = if Pg.regE h.1 0 x.a ≠ 0 then Pg.regE h.1 0 x.a else if Pg.regE h.1 1 x.b ≠ 0 then Pg.regE h.1 1 x.b else if Pg.regE h.1 2 x.c ≠ 0 then Pg.regE h.1 2 x.c else 0 := rfl
      rw [hG] at h1
      by_cases ha : Pg.regE h.1 0 x.a = 0
      · rw [if_neg (by simp [ha])] at h1
        by_cases hb : Pg.regE h.1 1 x.b = 0
        · rw [if_neg (by simp [hb])] at h1
          by_cases hc : Pg.regE h.1 2 x.c = 0
          · exact ⟨ha, hb, hc, h2, e⟩
          · rw [if_pos hc] at h1; exact absurd h1 hc
        · rw [if_pos hb] at h1; exact absurd h1 hb
      · rw [if_pos ha] at h1; exact absurd h1 ha
    · rw [if_pos h2] at e; exact absurd e h2
  · rw [if_pos h1] at e; exact absurd e h1
theorem reg_ok {r i : Nat} {v : Int} (h : Pg.regE r i v = 0) : 0 ≤ v ∧ v ≤ 7 ∧ (r ≤ i → v = 0) := by
  unfold Pg.regE at h
  by_cases hr : r ≤ i
  · rw [if_pos hr] at h
    by_cases hv : v = 0
    · exact ⟨by omega, by omega, fun _ => hv⟩
    · rw [if_pos hv] at h; cases h
  · rw [if_neg hr] at h
    by_cases hv : v < 0 ∨ 7 < v
    · rw [if_pos hv] at h; cases h
    · exact ⟨by omega, by omega, fun k => absurd k hr⟩
theorem n_ok {nb : Bool} {v : Int} {many : Nat} (h : Pg.nE nb v many = 0) : 0 ≤ v ∧ v ≤ many ∧ (nb = false → v = 0) := by
  unfold Pg.nE at h
  cases nb with
  | true =>
    rw [if_pos rfl] at h
    by_cases hv : v < 0 ∨ (many : Int) < v
    · rw [if_pos hv] at h; cases h
    · exact ⟨by omega, by omega, fun k => by cases k⟩
  | false =>
    rw [if_neg (by simp)] at h
    by_cases hv : v = 0
    · exact ⟨by omega, by omega, fun _ => hv⟩
    · rw [if_pos hv] at h; cases h
theorem k_ok {kb : Bool} {k : Nat} (h : Pg.kE kb k = 0) : kb = false → k = 0 := by
  unfold Pg.kE at h
  rintro rfl
  rw [if_neg (by simp)] at h
  by_cases hv : k = 0
  · exact hv
  · rw [if_pos hv] at h; cases h
structure Ok (x : In) (many : Nat) : Prop where
  op : 1 ≤ x.op ∧ x.op ≤ 24
  a : 0 ≤ x.a ∧ x.a ≤ 7 ∧ ((Pg.hasP x.op).1 ≤ 0 → x.a = 0)
  b : 0 ≤ x.b ∧ x.b ≤ 7 ∧ ((Pg.hasP x.op).1 ≤ 1 → x.b = 0)
  c : 0 ≤ x.c ∧ x.c ≤ 7 ∧ ((Pg.hasP x.op).1 ≤ 2 → x.c = 0)
  n : 0 ≤ x.n ∧ x.n ≤ many ∧ ((Pg.hasP x.op).2.1 = false → x.n = 0)
  k : (Pg.hasP x.op).2.2 = false → x.k = 0
theorem ins_ok {x : In} (hx : x.Fits) {many : Nat} (hm : many ≤ 64) (h : Pg.insE x many = 0) : Ok x many := by
  obtain ⟨n, hn⟩ := ins_op x many h
  rw [insE_ref x hx many hm] at h
  by_cases hw : (Pg.wordP x.op).toList = []
  · rw [if_pos hw] at h; cases h
  rw [if_neg hw] at h
  obtain ⟨h1, h2, h3, h4, h5⟩ := wrong_zero h
  exact ⟨by have := n.isLt; omega, reg_ok h1, reg_ok h2, reg_ok h3, n_ok h4, k_ok h5⟩
theorem un_id {v : Int} (h : 0 ≤ v) (h2 : v ≤ 1024) : (Pg.un v : Int) = v := by unfold Pg.un; omega
theorem sets_ok {x : In} {many : Nat} (hm : many ≤ 64) (h : Ok x many) (h3 : (Pg.hasP x.op).1 ≤ 3) : Pg.sets x (Pg.fl (Pg.hasP x.op)) ⟨x.op, 0, 0, 0, 0, 0⟩ = x := by
  obtain ⟨hop, ha, hb, hc, hn, hk⟩ := h
  have ea := un_id ha.1 (by omega)
  have eb := un_id hb.1 (by omega)
  have ec := un_id hc.1 (by omega)
  have en := un_id hn.1 (by omega)
  generalize Pg.hasP x.op = hp at *
  obtain ⟨r, nb, kb⟩ := hp
  obtain ⟨op, a, b, c, n, k⟩ := x
  simp only at *
  match r, h3 with
  | 0, _ =>
    have := ha.2.2 (by omega); have := hb.2.2 (by omega); have := hc.2.2 (by omega)
    cases nb <;> cases kb <;> simp_all [Pg.sets, Pg.fl, Pg.setF, Pg.get]
  | 1, _ =>
    have := hb.2.2 (by omega); have := hc.2.2 (by omega)
    cases nb <;> cases kb <;> simp_all [Pg.sets, Pg.fl, Pg.setF, Pg.get]
  | 2, _ =>
    have := hc.2.2 (by omega)
    cases nb <;> cases kb <;> simp_all [Pg.sets, Pg.fl, Pg.setF, Pg.get]
  | 3, _ =>
    cases nb <;> cases kb <;> simp_all [Pg.sets, Pg.fl, Pg.setF, Pg.get]
theorem get_ok {x : In} {many : Nat} (hm : many ≤ 64) (h : Ok x many) (l : Nat) (hl : l ≠ 75) (hl2 : l = 65 ∨ l = 66 ∨ l = 67 ∨ l = 78) : Pg.get x l ≤ 64 := by
  have ea := un_id h.a.1 (by have := h.a; omega)
  have eb := un_id h.b.1 (by have := h.b; omega)
  have ec := un_id h.c.1 (by have := h.c; omega)
  have en := un_id h.n.1 (by have := h.n; omega)
  have := h.a; have := h.b; have := h.c; have := h.n
  rcases hl2 with rfl | rfl | rfl | rfl
  · show Pg.un x.a ≤ 64; omega
  · show Pg.un x.b ≤ 64; omega
  · show Pg.un x.c ≤ 64; omega
  · show Pg.un x.n ≤ 64; omega
theorem fl_mem {hp : Nat × Bool × Bool} {c : UInt8} (h : c ∈ Pg.fl hp) : c = 65 ∨ c = 66 ∨ c = 67 ∨ c = 78 ∨ c = 75 := by
  obtain ⟨r, nb, kb⟩ := hp
  unfold Pg.fl at h
  rcases List.mem_append.1 h with h | h
  · have := List.mem_of_mem_take h
    simp at this
    rcases this with h | h | h <;> simp [h]
  · cases nb <;> cases kb <;> simp at h
    · simp [h]
    · simp [h]
    · rcases h with h | h <;> simp [h]
theorem ins_at {b : ByteArray} {p many : Nat} {r : List UInt8} {x : In} (hx : x.Fits) (hm : many ≤ 64) (h : Pg.insE x many = 0) (hr : rest b p = (Pg.insB x).data.toList ++ r) : ∃ q, Pg.insS b (p, 0) = (x, (q, 0)) ∧ rest b q = r := by
  have hok := ins_ok hx hm h
  obtain ⟨hf, _, h3⟩ := ins_fl x many h
  have hu := un_id (v := x.op) (by have := hok.op; omega) (by have := hok.op; omega)
  unfold Pg.insB at hr
  rw [hf, goB_list, List.append_assoc] at hr
  obtain ⟨q, hq, hr2⟩ := num_at (most := 64) hr (by have := hok.op; omega) (un_lt _)
  obtain ⟨q2, hq2, hr3⟩ := flds_at x hx.k (Pg.fl (Pg.hasP x.op)) ⟨x.op, 0, 0, 0, 0, 0⟩ q r (fun c hc h75 => get_ok hm hok c.toNat h75 (by
    rcases fl_mem hc with rfl | rfl | rfl | rfl | rfl
    · exact .inl rfl
    · exact .inr (.inl rfl)
    · exact .inr (.inr (.inl rfl))
    · exact .inr (.inr (.inr rfl))
    · exact absurd rfl h75)) hr2
  refine ⟨q2, ?_, hr3⟩
  unfold Pg.insS
  rw [hq, hu, hf, hq2, sets_ok hm hok h3]
theorem many_at {b : ByteArray} {many : Nat} (hm : many ≤ 64) : ∀ (xs : List In) (p : Nat) (r : List UInt8) (acc : List In), (∀ x ∈ xs, x.Fits) → (∀ x ∈ xs, Pg.insE x many = 0) → rest b p = (xs.flatMap fun x => (Pg.insB x).data.toList) ++ r → ∃ q, Pg.manyS b xs.length (p, 0) acc = (acc ++ xs, (q, 0)) ∧ rest b q = r
  | [], p, r, acc, _, _, h => ⟨p, by rw [List.append_nil]; rfl, h⟩
  | x :: t, p, r, acc, hx, hi, h => by
    rw [List.flatMap_cons, List.append_assoc] at h
    obtain ⟨q, hq, hr⟩ := ins_at (hx x (by simp)) hm (hi x (by simp)) h
    obtain ⟨q2, hq2, hr2⟩ := many_at hm t q r (acc ++ [x]) (fun y hy => hx y (by simp [hy])) (fun y hy => hi y (by simp [hy])) hr
    refine ⟨q2, ?_, hr2⟩
    show Pg.manyS b t.length (Pg.insS b (p, 0)).2 (acc ++ [(Pg.insS b (p, 0)).1]) = _
    rw [hq, hq2, List.append_assoc]
    rfl
theorem allB_flat : ∀ (xs : List In) (acc : List UInt8), Pg.allB xs acc = acc ++ xs.flatMap fun x => (Pg.insB x).data.toList
  | [], acc => by unfold Pg.allB; simp
  | x :: r, acc => by unfold Pg.allB; rw [allB_flat r, List.flatMap_cons, List.append_assoc]
end Go.Proofs.YthfbkpkogihcbabGreatDoor
end
