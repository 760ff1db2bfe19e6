import Derived.Test.YthfbkpkogihcbabGreatDoorMgAX
import Derived.Deep.AppendLies

section
namespace Go.Proofs.YthfbkpkogihcbabGreatDoor
open Go.RowKit Go.Shelf

def exI : List In := [⟨1, 0, 0, 0, 0, 4609434218613702656⟩, ⟨21, 0, 0, 0, 0, 0⟩, ⟨14, 0, 0, 0, 3, 0⟩]
theorem ex_check : Pg.checkE 9 exI = (0, 0) := by kernel_rfl
theorem ex_print : Pg.printS 9 exI = ⟨#[102, 117, 101, 108, 32, 57, 10, 115, 101, 116, 32, 114, 48, 32, 51, 112, 45, 49, 10, 101, 109, 105, 116, 32, 114, 48, 10, 106, 117, 109, 112, 32, 51, 10]⟩ := by kernel_rfl
theorem ex_parse : Pg.parseS ⟨#[102, 117, 101, 108, 32, 57, 10, 115, 101, 116, 32, 114, 48, 32, 51, 112, 45, 49, 10, 101, 109, 105, 116, 32, 114, 48, 10, 106, 117, 109, 112, 32, 51, 10]⟩ = ((9, exI), (0, 0)) := by kernel_rfl
theorem ex_pack : Pg.packS 9 exI = ⟨#[9, 3, 1, 0, 63, 248, 0, 0, 0, 0, 0, 0, 21, 0, 14, 3]⟩ := by kernel_rfl
theorem ex_unpack : Pg.unpackS ⟨#[9, 3, 1, 0, 63, 248, 0, 0, 0, 0, 0, 0, 21, 0, 14, 3]⟩ = ((9, exI), 0) := by kernel_rfl
theorem ex_zero : Pg.checkE 0 [] = (56, 0) := by kernel_rfl
theorem ex_none : Pg.parseS ⟨#[]⟩ = ((0, []), (55, 1)) := by kernel_rfl
theorem ex_empty : Pg.unpackS ⟨#[]⟩ = ((0, []), 54) := by kernel_rfl
theorem exI_k : ∀ x ∈ exI, x.k < 18446744073709551616 := by decide

theorem cd_block {w : World} {b cap : Nat} {xs : List In} {t : TypeId} {fz : Nat × Nat} (h : w.heap[b]? = some (.cells (Pg.flat xs).toArray t fz)) : Cd w (.slice (some ⟨b, 0, none⟩) xs.length cap) xs := by
  refine ⟨_, cap, rfl, fun _ => ⟨b, 0, rfl, lt_of_block h, fun j hj i u hi => ?_⟩⟩
  have hi6 : i < 6 := (List.getElem?_eq_some_iff.1 hi).1
  rw [← flat_get In.cs 6 (fun _ => rfl) xs j i hj hi6] at hi
  simp only [World.cell?, h]
  show (Pg.flat xs).toArray[0 + j * 6 + i]? = some u
  rw [Nat.zero_add, List.getElem?_toArray]
  exact hi
theorem example_any (w : World) : Calls Tryz.prog 29 #[] w fun e w' => ∃ v, e = .returned (.agg #[.int .i64 9, v]) ∧ Cd w' v exI ∧ Below w.heap.size w w' := by
  go_enter Tryz.func29, Tryz.ntmps29
  go_wp2
  refine bodyPost_ret (by rw [results_one rfl]; go_simp; rfl) rfl ?_
  refine ⟨_, rfl, cd_block (xs := exI) (t := 39) (fz := (0, 0)) ?_, (below_one w _).trans ((below_one _ _).mono (by simp))⟩
  have := heap_alloc_new (w.alloc (.cells #[.int .i64 9, .slice (some ⟨w.heap.size + 1, 0, none⟩) 3 3] 25)) (.cells (Pg.flat exI).toArray 39)
  rw [World.size_alloc] at this
  exact this
theorem guardI (op : BinOp) (x y : Operand) (xs ys : Array Value) (w : World) : (eqGuard op 39 x y (.agg xs) (.agg ys)).run Tryz.prog w = .ok () w := run_eqGuard_agg w op _ x y xs ys (by kernel_rfl)
theorem eqI_self (x : In) (w : World) : (Op.equalIn 10000 39 (.agg #[.int .i64 x.op, .int .i64 x.a, .int .i64 x.b, .int .i64 x.c, .int .i64 x.n, .int .u64 (x.k : Int)]) (.agg #[.int .i64 x.op, .int .i64 x.a, .int .i64 x.b, .int .i64 x.c, .int .i64 x.n, .int .u64 (x.k : Int)])).run Tryz.prog w = .ok true w := by
  have u3 := Tryz.underlying3
  have a3 := Tryz.isAgg3
  have z3 := Tryz.sizeOf3
  have u9 := Tryz.underlying37
  have a9 := Tryz.isAgg37
  have z9 := Tryz.sizeOf37
  have hS : Tryz.prog.underlying 39 = some (.struct (Tryz.prog.fieldsOf 39)) := by kernel_rfl
  have hp : Tryz.prog.stoodInHeld 39 = false := by kernel_rfl
  rw [show (10000 : Nat) = 9999 + 1 from rfl, run_equalIn_agg w 9999 39 _ _ hS hp]
  simp only [Program.fieldsOf, Tryz.underlying39]
  go_simp
theorem neqI_self (x : In) (w : World) : (binOp .neq 39 (.agg #[.int .i64 x.op, .int .i64 x.a, .int .i64 x.b, .int .i64 x.c, .int .i64 x.n, .int .u64 (x.k : Int)]) (.agg #[.int .i64 x.op, .int .i64 x.a, .int .i64 x.b, .int .i64 x.c, .int .i64 x.n, .int .u64 (x.k : Int)])).run Tryz.prog w = .ok (.bool false) w := by
  rw [run_neq_struct, eqI_self]
  rfl
set_option maxRecDepth 10000 in
set_option maxHeartbeats 1000000 in
theorem same_self (f : Int) (xs : List In) (v1 v2 : Value) (w : World) (h1 : Cd w v1 xs) (h2 : Cd w v2 xs) (hl : xs.length ≤ 140737488355328) :
    Calls Tryz.prog 30 #[.agg #[.int .i64 f, v1], .agg #[.int .i64 f, v2]] w fun e w' => e = .returned (.bool true) ∧ Below w.heap.size w w' := by
  obtain ⟨p1, c1, rfl, k1⟩ := h1
  obtain ⟨p2, c2, rfl, k2⟩ := h2
  have HK1 := hide k1
  have HK2 := hide k2
  clear k1 k2
  have b0 : (f != f) = false := by simp
  have b1 : ((xs.length : Int) != (xs.length : Int)) = false := by simp
  go_enter Tryz.func30, Tryz.ntmps30
  go_wp2_with fail
  have HB0 : Hid (Below w.heap.size w ((w.alloc (.cells #[.int .i64 f, .slice p1 xs.length c1] 25)).alloc (.cells #[.int .i64 f, .slice p2 xs.length c2] 25))) := (below_one w _).trans ((below_one _ _).mono (by simp))
  have HP1 : Hid (Pb ((w.alloc (.cells #[.int .i64 f, .slice p1 xs.length c1] 25)).alloc (.cells #[.int .i64 f, .slice p2 xs.length c2] 25)) w.heap.size f (.slice p1 xs.length c1)) := (Below.heap_alloc _ _ _ (by simp)).trans (heap_alloc_new w _)
  have HP2 : Hid (Pb ((w.alloc (.cells #[.int .i64 f, .slice p1 xs.length c1] 25)).alloc (.cells #[.int .i64 f, .slice p2 xs.length c2] 25)) (w.heap.size + 1) f (.slice p2 xs.length c2)) := by
    have := heap_alloc_new (w.alloc (.cells #[.int .i64 f, .slice p1 xs.length c1] 25)) (.cells #[.int .i64 f, .slice p2 xs.length c2] 25)
    rw [World.size_alloc] at this
    exact this
  generalize (w.alloc (.cells #[.int .i64 f, .slice p1 xs.length c1] 25)).alloc (.cells #[.int .i64 f, .slice p2 xs.length c2] 25) = W0 at *
  go_loopw [5] (fun s wr => ∃ (k n : Nat), k ≤ xs.length ∧ s = .int .i64 (k : Int) ∧ wr = W0.drewN n) (fun s _ => xs.length - (intOf s).toNat)
  case atStart => exact ⟨0, 0, Nat.zero_le _, rfl, rfl⟩
  case round =>
    obtain ⟨k, n, hk, rfl, hwr⟩ := hrel
    have hB : Below w.heap.size w wr := by rw [hwr]; exact ⟨HB0.out.os, HB0.out.tape, HB0.out.output, HB0.out.size, HB0.out.block⟩
    have hP1 : Pb wr w.heap.size f (.slice p1 xs.length c1) := by rw [hwr]; exact HP1.out
    have hP2 : Pb wr (w.heap.size + 1) f (.slice p2 xs.length c2) := by rw [hwr]; exact HP2.out
    have q1 := hP1.c1
    have q2 := hP2.c1
    have HB := hide hB
    have HWR := hide hwr
    by_cases hlt : k < xs.length
    · obtain ⟨g1, o1, rfl, l1, m1⟩ := HK1.out (by omega)
      obtain ⟨g2, o2, rfl, l2, m2⟩ := HK2.out (by omega)
      have hc1 : ∀ i u, (xs[k]!).cs[i]? = some u → wr.cell? ⟨g1, o1 + k * 6 + i, none⟩ = some u := fun i u hi => (hB.cell (p := ⟨g1, o1 + k * 6 + i, none⟩) l1).trans (m1 k hlt i u hi)
      have hc2 : ∀ i u, (xs[k]!).cs[i]? = some u → wr.cell? ⟨g2, o2 + k * 6 + i, none⟩ = some u := fun i u hi => (hB.cell (p := ⟨g2, o2 + k * 6 + i, none⟩) l2).trans (m2 k hlt i u hi)
      have x0 := hc1 0 _ rfl
      have x1 := hc1 1 _ rfl
      have x2 := hc1 2 _ rfl
      have x3 := hc1 3 _ rfl
      have x4 := hc1 4 _ rfl
      have x5 := hc1 5 _ rfl
      have y0 := hc2 0 _ rfl
      have y1 := hc2 1 _ rfl
      have y2 := hc2 2 _ rfl
      have y3 := hc2 3 _ rfl
      have y4 := hc2 4 _ rfl
      have y5 := hc2 5 _ rfl
      simp only [Nat.add_zero] at x0 y0
      generalize xs[k]! = x at *
      have hq := neqI_self x
      have hgd : ∀ y z w, (eqGuard .neq 39 y z (.agg #[.int .i64 x.op, .int .i64 x.a, .int .i64 x.b, .int .i64 x.c, .int .i64 x.n, .int .u64 (x.k : Int)]) (.agg #[.int .i64 x.op, .int .i64 x.a, .int .i64 x.b, .int .i64 x.c, .int .i64 x.n, .int .u64 (x.k : Int)])).run Tryz.prog w = .ok () w := fun y z w => guardI _ _ _ _ _ w
      have hki : (k : Int) < (xs.length : Int) := by omega
      clear m1 m2 hc1 hc2 hP1 hP2 hB hwr
      go_wp2_with fail
      go_quiet (fail)
      go_wp2
      go_roundw
      case rel => exact ⟨k + 1, n + nq, by omega, by go_num, by rw [HWR.out]; simp [World.drewN, Nat.add_assoc]⟩
      case measure => simp [intOf]; omega
    · obtain rfl : k = xs.length := by omega
      have hki : ¬ (xs.length : Int) < (xs.length : Int) := by omega
      clear hP1 hP2 hB hwr
      go_wp2
      go_ret
      exact ⟨rfl, HB.out⟩
end Go.Proofs.YthfbkpkogihcbabGreatDoor
end

section
namespace Go.Proofs.YthfbkpkogihcbabGreatDoor
open Go.RowKit Go.Shelf

theorem check_ex (v : Value) (w : World) (h : Cd w v exI) : Calls Tryz.prog 8 #[.agg #[.int .i64 9, v]] w fun e w' => e = .returned (.tuple #[.int .i64 0, .int .i64 0]) ∧ Below w.heap.size w w' := by
  have := check_any 9 exI exI_k v w h; rw [ex_check] at this; exact this
theorem print_ex (v : Value) (w : World) (h : Cd w v exI) (hT : Libs w) : Calls Tryz.prog 9 #[.agg #[.int .i64 9, v]] w fun e w' => e = .returned (.tuple #[.string ⟨#[102, 117, 101, 108, 32, 57, 10, 115, 101, 116, 32, 114, 48, 32, 51, 112, 45, 49, 10, 101, 109, 105, 116, 32, 114, 48, 10, 106, 117, 109, 112, 32, 51, 10]⟩, .int .i64 0]) ∧ Below w.heap.size w w' := by
  have := print_any 9 exI exI_k v w h hT.tabs; rw [ex_check, ex_print] at this; exact this
theorem pack_ex (v : Value) (w : World) (h : Cd w v exI) : Calls Tryz.prog 11 #[.agg #[.int .i64 9, v]] w fun e w' => e = .returned (.tuple #[.string ⟨#[9, 3, 1, 0, 63, 248, 0, 0, 0, 0, 0, 0, 21, 0, 14, 3]⟩, .int .i64 0]) ∧ Below w.heap.size w w' := by
  have := pack_any 9 exI exI_k v w h; rw [ex_check, ex_pack] at this; exact this
theorem parse_ex (w : World) (hT : Libs w) : Calls Tryz.prog 7 #[.string ⟨#[102, 117, 101, 108, 32, 57, 10, 115, 101, 116, 32, 114, 48, 32, 51, 112, 45, 49, 10, 101, 109, 105, 116, 32, 114, 48, 10, 106, 117, 109, 112, 32, 51, 10]⟩] w fun e w' => ∃ v, e = .returned (.tuple #[.agg #[.int .i64 9, v], .int .i64 0, .int .i64 0]) ∧ Cd w' v exI ∧ Below w.heap.size w w' := by
  have := parseText_any ⟨#[102, 117, 101, 108, 32, 57, 10, 115, 101, 116, 32, 114, 48, 32, 51, 112, 45, 49, 10, 101, 109, 105, 116, 32, 114, 48, 10, 106, 117, 109, 112, 32, 51, 10]⟩ (by decide) w hT
  rw [ex_parse] at this
  exact this.mono fun e w' ⟨v, h1, h2, h3⟩ => ⟨v, h1, own_cd h2, h3⟩
theorem unpack_ex (w : World) : Calls Tryz.prog 10 #[.string ⟨#[9, 3, 1, 0, 63, 248, 0, 0, 0, 0, 0, 0, 21, 0, 14, 3]⟩] w fun e w' => ∃ v, e = .returned (.tuple #[.agg #[.int .i64 9, v], .int .i64 0]) ∧ Cd w' v exI ∧ Below w.heap.size w w' := by
  have := unpack_any ⟨#[9, 3, 1, 0, 63, 248, 0, 0, 0, 0, 0, 0, 21, 0, 14, 3]⟩ w
  rw [ex_unpack] at this
  exact this.mono fun e w' ⟨v, h1, h2, h3⟩ => ⟨v, h1, own_cd h2, h3⟩
theorem cd_slice {w : World} {v : Value} {xs : List In} (h : Cd w v xs) : ∃ ad cap, v = .slice ad xs.length cap := by
  obtain ⟨p, cap, hv, _⟩ := h
  exact ⟨p, cap, hv⟩
theorem Cd.drew {w : World} {v : Value} {xs : List In} (h : Cd w v xs) : Cd w.drew v xs := ⟨h.form⟩
set_option maxRecDepth 20000 in
set_option maxHeartbeats 400000 in
theorem known_true (w : World) (hT : Libs w) : Calls Tryz.prog 12 #[] w fun e w' => e = .returned (.bool true) ∧ Below w.heap.size w w' := by
  have HT := hide hT
  clear hT
  go_enter Tryz.func12, Tryz.ntmps12
  go_wp2_with fail
  refine (example_any w).mono ?_
  rintro e w1 ⟨v1, rfl, hC1, hb1⟩
  go_wp2_with fail
  refine (check_ex v1 w1 hC1).mono ?_
  rintro e w2 ⟨rfl, hb2⟩
  have HB2 : Hid (Below w.heap.size w w2) := hb1.trans (hb2.mono hb1.size)
  clear hb1 hb2 hC1
  go_wp2_with fail
  refine (example_any w2).mono ?_
  rintro e w3 ⟨v3, rfl, hC3, hb3⟩
  have HB3 : Hid (Below w.heap.size w w3) := HB2.out.trans (hb3.mono HB2.out.size)
  clear hb3 HB2
  go_wp2_with fail
  refine (print_ex v3 w3 hC3 (HT.out.below HB3.out (Nat.le_refl _))).mono ?_
  rintro e w4 ⟨rfl, hb4⟩
  have HB4 : Hid (Below w.heap.size w w4) := HB3.out.trans (hb4.mono HB3.out.size)
  clear hb4 HB3 hC3
  go_wp2_with fail
  refine (parse_ex w4 (HT.out.below HB4.out (Nat.le_refl _))).mono ?_
  rintro e w5 ⟨v5, rfl, hC5, hb5⟩
  have HB5 : Hid (Below w.heap.size w w5) := HB4.out.trans (hb5.mono HB4.out.size)
  clear hb5 HB4
  obtain ⟨ad5, cap5, rfl⟩ := cd_slice hC5
  have HC5 := hide (hC5.below (below_one w5 (.cells #[.int .i64 9, .slice ad5 exI.length cap5] 25)) (Nat.le_refl _))
  clear hC5
  go_wp2_with fail
  have HP6 : Hid (Pb (w5.alloc (.cells #[.int .i64 9, .slice ad5 exI.length cap5] 25)) w5.heap.size 9 (.slice ad5 exI.length cap5)) := heap_alloc_new w5 _
  have HB6 := hide (HB5.out.alloc HB5.out.size (.cells #[.int .i64 9, .slice ad5 exI.length cap5] 25))
  clear HB5
  refine (example_any _).mono ?_
  rintro e w7 ⟨v7, rfl, hC7, hb7⟩
  have HP7 := hide (HP6.out.grown (grown_below hb7 none) (by simp))
  have HC57 := hide (HC5.out.below hb7 (Nat.le_refl _))
  have HB7 : Hid (Below w.heap.size w w7) := HB6.out.trans (hb7.mono HB6.out.size)
  clear hb7 HP6 HB6 HC5
  go_wp2_with fail
  refine (pack_ex v7 w7 hC7).mono ?_
  rintro e w8 ⟨rfl, hb8⟩
  have HP8 := hide (HP7.out.grown (grown_below hb8 none) (by simp))
  have HC58 := hide (HC57.out.below hb8 (Nat.le_refl _))
  have HB8 : Hid (Below w.heap.size w w8) := HB7.out.trans (hb8.mono HB7.out.size)
  clear hb8 HP7 HB7 HC57 hC7
  go_wp2_with fail
  refine (unpack_ex w8).mono ?_
  rintro e w9 ⟨v9, rfl, hC9, hb9⟩
  obtain ⟨ad9, cap9, rfl⟩ := cd_slice hC9
  have HP9 := hide (HP8.out.grown (grown_below hb9 none) (by simp))
  have HC59 := hide (HC58.out.below hb9 (Nat.le_refl _))
  have HB9 : Hid (Below w.heap.size w w9) := HB8.out.trans (hb9.mono HB8.out.size)
  have HPa := hide (HP9.out.grown (grown_one w9 (.cells #[.int .i64 9, .slice ad9 exI.length cap9] 25) none) (by simp))
  have HCa := hide (HC59.out.below (below_one w9 (.cells #[.int .i64 9, .slice ad9 exI.length cap9] 25)) (Nat.le_refl _))
  have HBa := hide (HB9.out.alloc HB9.out.size (.cells #[.int .i64 9, .slice ad9 exI.length cap9] 25))
  have HCb := hide (hC9.below (below_one w9 (.cells #[.int .i64 9, .slice ad9 exI.length cap9] 25)) (Nat.le_refl _))
  have HPb : Hid (Pb (w9.alloc (.cells #[.int .i64 9, .slice ad9 exI.length cap9] 25)) w9.heap.size 9 (.slice ad9 exI.length cap9)) := heap_alloc_new w9 _
  clear hb9 HP8 HB8 HC58 hC9 HP9 HC59 HB9
  go_wp2_with fail
  generalize w9.alloc (.cells #[.int .i64 9, .slice ad9 exI.length cap9] 25) = wa at *
  have a0 := HPa.out.c0
  have a1 := HPa.out.c1
  have b0 := HPb.out.c0
  have b1 := HPb.out.c1
  have HTok : Hid True := trivial
  have HTok2 : Hid True := trivial
  go_region_held3 (fun w' => w'.cell? ⟨w5.heap.size, 0, none⟩ = some (.int .i64 9) ∧ w'.cell? ⟨w5.heap.size, 1, none⟩ = some (.slice ad5 exI.length cap5) ∧ w'.cell? ⟨w9.heap.size, 0, none⟩ = some (.int .i64 9) ∧ w'.cell? ⟨w9.heap.size, 1, none⟩ = some (.slice ad9 exI.length cap9)) (go_keep) (first
    | (go_at_call 29; clear HTok; refine (example_any _).mono ?_; rintro e wb ⟨vb, rfl, hCb, hbb⟩; have HBb := hide hbb; have HCbb := hide hCb; have u0 := (hbb.cell (World.block_lt_of_cell? _ _ a0)).trans a0; have u1 := (hbb.cell (World.block_lt_of_cell? _ _ a1)).trans a1; have u2 := (hbb.cell (World.block_lt_of_cell? _ _ b0)).trans b0; have u3 := (hbb.cell (World.block_lt_of_cell? _ _ b1)).trans b1; clear hbb hCb)
    | (go_at_call 30; clear HTok2; refine (same_self 9 exI (.slice ad5 exI.length cap5) vb wb (HCa.out.drew.below HBb.out (Nat.le_refl _)) HCbb.out (by decide)).mono ?_; rintro e wc ⟨rfl, hbc⟩; have HBc := hide hbc; have t0 := (hbc.cell (World.block_lt_of_cell? _ _ u0)).trans u0; have t1 := (hbc.cell (World.block_lt_of_cell? _ _ u1)).trans u1; have t2 := (hbc.cell (World.block_lt_of_cell? _ _ u2)).trans u2; have t3 := (hbc.cell (World.block_lt_of_cell? _ _ u3)).trans u3; clear hbc)
    | (go_at_call 29; refine (example_any _).mono ?_; rintro e wd ⟨vd, rfl, hCd, hbd⟩; have HBd := hide hbd; have HCd := hide hCd; have s0 := (hbd.cell (World.block_lt_of_cell? _ _ t0)).trans t0; have s1 := (hbd.cell (World.block_lt_of_cell? _ _ t1)).trans t1; have s2 := (hbd.cell (World.block_lt_of_cell? _ _ t2)).trans t2; have s3 := (hbd.cell (World.block_lt_of_cell? _ _ t3)).trans t3; clear hbd hCd)
    | (go_at_call 30; refine (same_self 9 exI (.slice ad9 exI.length cap9) vd wd (((HCb.out.drew.below HBb.out (Nat.le_refl _)).below HBc.out (Nat.le_refl _)).below HBd.out (Nat.le_refl _)) HCd.out (by decide)).mono ?_; rintro e we ⟨rfl, hbe⟩; have HBe := hide hbe; have r0 := (hbe.cell (World.block_lt_of_cell? _ _ s0)).trans s0; have r1 := (hbe.cell (World.block_lt_of_cell? _ _ s1)).trans s1; have r2 := (hbe.cell (World.block_lt_of_cell? _ _ s2)).trans s2; have r3 := (hbe.cell (World.block_lt_of_cell? _ _ s3)).trans s3; clear hbe))
  go_wp2
  go_ret
  have h1 : Below w.heap.size w wa.drew := HBa.out.drew
  have h2 := h1.trans (HBb.out.mono h1.size)
  have h3 := h2.trans (HBc.out.mono h2.size)
  have h4 := h3.trans (HBd.out.mono h3.size)
  exact ⟨rfl, h4.trans (HBe.out.mono h4.size)⟩
end Go.Proofs.YthfbkpkogihcbabGreatDoor
end

section
namespace Go.Proofs.YthfbkpkogihcbabGreatDoor
open Go.RowKit Go.Shelf

theorem cd_nil (w : World) : Cd w (.slice none 0 0) [] := ⟨⟨none, 0, rfl, fun h => by cases h⟩⟩
theorem check_zero (w : World) : Calls Tryz.prog 8 #[.agg #[.int .i64 0, .slice none 0 0]] w fun e w' => e = .returned (.tuple #[.int .i64 56, .int .i64 0]) ∧ Below w.heap.size w w' := by
  have := check_any 0 [] (fun x hx => by cases hx) _ w (cd_nil w); rw [ex_zero] at this; exact this
theorem parse_zero (w : World) (hT : Libs w) : Calls Tryz.prog 7 #[.string ⟨#[]⟩] w fun e w' => ∃ ad cap, e = .returned (.tuple #[.agg #[.int .i64 0, .slice ad 0 cap], .int .i64 55, .int .i64 1]) ∧ Below w.heap.size w w' := by
  have := parseText_any ⟨#[]⟩ (by decide) w hT
  rw [ex_none] at this
  refine this.mono ?_
  rintro e w' ⟨v, h1, h2, h3⟩
  obtain ⟨ad, cap, rfl⟩ := own_slice h2
  exact ⟨ad, cap, h1, h3⟩
theorem unpack_zero (w : World) : Calls Tryz.prog 10 #[.string ⟨#[]⟩] w fun e w' => ∃ ad cap, e = .returned (.tuple #[.agg #[.int .i64 0, .slice ad 0 cap], .int .i64 54]) ∧ Below w.heap.size w w' := by
  have := unpack_any ⟨#[]⟩ w
  rw [ex_empty] at this
  refine this.mono ?_
  rintro e w' ⟨v, h1, h2, h3⟩
  obtain ⟨ad, cap, rfl⟩ := own_slice h2
  exact ⟨ad, cap, h1, h3⟩
set_option maxRecDepth 20000 in
set_option maxHeartbeats 1000000 in
theorem names_true (w : World) (hT : Libs w) : Calls Tryz.prog 13 #[] w fun e w' => e = .returned (.bool true) ∧ Below w.heap.size w w' := by
  have HT := hide hT
  clear hT
  go_enter Tryz.func13, Tryz.ntmps13
  go_wp2_with fail
  refine (check_zero w).mono ?_
  rintro e w1 ⟨rfl, hb1⟩
  have HB1 := hide hb1
  clear hb1
  go_wp2_with fail
  refine (parse_zero w1 (HT.out.below HB1.out (Nat.le_refl _))).mono ?_
  rintro e w2 ⟨ad, cap, rfl, hb2⟩
  have HB2 : Hid (Below w.heap.size w w2) := HB1.out.trans (hb2.mono HB1.out.size)
  have HB3 := hide (HB2.out.alloc HB2.out.size (.cells #[.int .i64 0, .slice ad 0 cap] 25))
  clear hb2 HB1 HB2
  go_wp2_with fail
  refine (unpack_zero _).mono ?_
  rintro e w4 ⟨ad4, cap4, rfl, hb4⟩
  have HB4 : Hid (Below w.heap.size w w4) := HB3.out.trans (hb4.mono HB3.out.size)
  have HB5 := hide (HB4.out.alloc HB4.out.size (.cells #[.int .i64 0, .slice ad4 0 cap4] 25))
  clear hb4 HB3 HB4
  go_wp2_with fail
  refine (known_true _ (HT.out.below HB5.out (Nat.le_refl _))).mono ?_
  rintro e w6 ⟨rfl, hb6⟩
  have HB6 : Hid (Below w.heap.size w w6) := HB5.out.trans (hb6.mono HB5.out.size)
  clear hb6 HB5
  go_wp2
  go_ret
  exact ⟨rfl, HB6.out⟩
set_option maxHeartbeats 1000000 in
theorem awake_true (w : World) (hT : Libs w) : Calls Tryz.prog 6 #[] w fun e w' => e = .returned (.bool true) ∧ Below w.heap.size w w' := by
  have HT := hide hT
  clear hT
  go_enter Tryz.func6, Tryz.ntmps6
  go_wp2_with fail
  refine (known_true w HT.out).mono ?_
  rintro e w1 ⟨rfl, hb1⟩
  have HB1 := hide hb1
  clear hb1
  go_wp2_with fail
  refine (names_true w1 (HT.out.below HB1.out (Nat.le_refl _))).mono ?_
  rintro e w2 ⟨rfl, hb2⟩
  have HB2 : Hid (Below w.heap.size w w2) := HB1.out.trans (hb2.mono HB1.out.size)
  clear hb2 HB1
  go_wp2
  go_ret
  exact ⟨rfl, HB2.out⟩
end Go.Proofs.YthfbkpkogihcbabGreatDoor
end

section
namespace Go.Proofs.YthfbkpkogihcbabGreatDoor
open Go.RowKit Go.Shelf

def haltI : In := ⟨24, 0, 0, 0, 0, 0⟩
theorem halt_ok (many : Nat) : Pg.insE haltI many = 0 := rfl
theorem insE_kinds (x : In) (many : Nat) : Pg.insE x many = 0 ∨ (51 ≤ Pg.insE x many ∧ Pg.insE x many ≤ 54 ∧ Pg.insE x many ≠ 50 ∧ Pg.insE x many ≠ 56) := by
  have hf : ∀ fs l, Pg.fieldE fs x many l = 0 ∨ (52 ≤ Pg.fieldE fs x many l ∧ Pg.fieldE fs x many l ≤ 54) := by
    intro fs l
    unfold Pg.fieldE Pg.namedE Pg.unnamedE
    repeat' split
    all_goals first | exact .inl rfl | exact .inr ⟨by decide, by decide⟩
  have hl : ∀ fs l, Pg.firstE fs x many l = 0 ∨ (52 ≤ Pg.firstE fs x many l ∧ Pg.firstE fs x many l ≤ 54) := by
    intro fs l
    induction l with
    | nil => exact .inl rfl
    | cons c r ih =>
      unfold Pg.firstE
      split
      · rcases hf fs c with h | h
        · exact .inl h
        · exact .inr h
      · exact ih
  unfold Pg.insE
  split
  · exact .inr ⟨by decide, by decide, by decide, by decide⟩
  · rcases hl (Pg.shape x.op).1.flds [65, 66, 67, 78, 75] with h | h
    · exact .inl h
    · exact .inr (by omega)
theorem goE_first (many : Nat) : ∀ (xs : List In) (i : Nat) (E at_ : Int), Pg.goE many xs i = (E, at_) → (E = 0 ∧ at_ = 0) ∨ (∃ k, k < xs.length ∧ at_ = ((i + k : Nat) : Int) ∧ (51 ≤ E ∧ E ≤ 54) ∧ ∀ j, j < k → Pg.insE xs[j]! many = 0)
  | [], i, E, at_, h => by cases h; exact .inl ⟨rfl, rfl⟩
  | x :: r, i, E, at_, h => by
    unfold Pg.goE at h
    by_cases hx : Pg.insE x many = 0
    · rw [if_neg (by simp [hx])] at h
      rcases goE_first many r (i + 1) E at_ h with h1 | ⟨k, hk, ha, hE, hj⟩
      · exact .inl h1
      · refine .inr ⟨k + 1, by simp; omega, by rw [ha]; congr 1; omega, hE, fun j hj' => ?_⟩
        cases j with
        | zero => simpa using hx
        | succ m => simpa using hj m (by omega)
    · rw [if_pos hx] at h
      cases h
      refine .inr ⟨0, by simp, rfl, ?_, fun j hj => by omega⟩
      rcases insE_kinds x many with h | h
      · exact absurd h hx
      · exact ⟨h.1, h.2.1⟩
theorem goE_all (many : Nat) : ∀ (xs : List In) (i : Nat), (∀ x ∈ xs, Pg.insE x many = 0) → Pg.goE many xs i = (0, 0)
  | [], _, _ => rfl
  | x :: r, i, h => by
    unfold Pg.goE
    rw [if_neg (by simp [h x (by simp)])]
    exact goE_all many r (i + 1) (fun y hy => h y (by simp [hy]))
namespace Pg
def plP (at_ : Nat) (xs : List In) (k : Nat) : List In := (List.range k).map fun i => if at_ ≤ i then haltI else xs[i]!
end Pg
theorem pl_len (at_ : Nat) (xs : List In) (k : Nat) : (Pg.plP at_ xs k).length = k := by unfold Pg.plP; simp
theorem pl_succ (at_ : Nat) (xs : List In) (k : Nat) : Pg.plP at_ xs (k + 1) = Pg.plP at_ xs k ++ [if at_ ≤ k then haltI else xs[k]!] := by unfold Pg.plP; rw [List.range_succ, List.map_append]; rfl
theorem pl_check (f : Int) (xs : List In) (E at_ : Int) (h : Pg.checkE f xs = (E, at_)) (h1 : E ≠ 0) (h2 : E ≠ 56) (h3 : E ≠ 50) : ∃ k : Nat, at_ = (k : Int) ∧ k < xs.length ∧ xs.length ≤ 64 ∧ Pg.checkE f (Pg.plP k xs xs.length) = (0, 0) := by
  unfold Pg.checkE at h
  by_cases hf : f < 1 ∨ 1024 < f
  · rw [if_pos hf] at h; cases h; exact absurd rfl h2
  rw [if_neg hf] at h
  by_cases hl : xs.length = 0 ∨ 64 < xs.length
  · rw [if_pos hl] at h; cases h; exact absurd rfl h3
  rw [if_neg hl] at h
  rcases goE_first xs.length xs 0 E at_ h with ⟨h0, _⟩ | ⟨k, hk, ha, _, hj⟩
  · exact absurd h0 h1
  · refine ⟨k, by rw [ha, Nat.zero_add], hk, by omega, ?_⟩
    unfold Pg.checkE
    rw [if_neg hf, pl_len, if_neg hl]
    refine goE_all _ _ _ (fun y hy => ?_)
    unfold Pg.plP at hy
    obtain ⟨i, hi, rfl⟩ := List.mem_map.1 hy
    split
    · exact halt_ok _
    · exact hj i (by omega)
theorem check_other (f : Int) (xs : List In) (E at_ : Int) (h : Pg.checkE f xs = (E, at_)) (h1 : E = 0 ∨ E = 56 ∨ E = 50) : at_ = 0 := by
  unfold Pg.checkE at h
  by_cases hf : f < 1 ∨ 1024 < f
  · rw [if_pos hf] at h; cases h; rfl
  rw [if_neg hf] at h
  by_cases hl : xs.length = 0 ∨ 64 < xs.length
  · rw [if_pos hl] at h; cases h; rfl
  rw [if_neg hl] at h
  rcases goE_first xs.length xs 0 E at_ h with ⟨_, h0⟩ | ⟨k, hk, ha, hE, hj⟩
  · exact h0
  · omega
set_option maxRecDepth 20000 in
set_option maxHeartbeats 2000000 in
theorem progPlaces_walk (fuel : Int) (xs : List In) (hx : ∀ x ∈ xs, x.Fits) (v : Value) (w : World) (h : Cd w v xs) (hT : Libs w) :
    Calls Tryz.prog 5 #[.agg #[.int .i64 fuel, v]] w fun e w' => e = .returned (.bool true) ∧ Below w.heap.size w w' := by
  have HC := hide (fun w1 h1 => check_any fuel xs (fun x hm => (hx x hm).k) v w1 h1)
  have hca := checkE_le fuel xs
  obtain ⟨ce, hce⟩ : ∃ ce, Pg.checkE fuel xs = ce := ⟨_, rfl⟩
  rw [hce] at HC hca
  obtain ⟨E, at_⟩ := ce
  have HCE := hide hce
  have HCd := hide h
  have HX := hide hx
  have HT := hide hT
  obtain ⟨ad, cap, rfl⟩ := cd_slice h
  clear h hT hx hce
  have hat0 : ¬ at_ < 0 := by have := hca.1; omega
  go_enter Tryz.func5, Tryz.ntmps5
  go_wp2_with fail
  refine (HC.out _ (HCd.out.below (below_one w _) (Nat.le_refl _))).mono ?_
  rintro e w1 ⟨rfl, hb1⟩
  have HP1 : Hid (Pb w1 w.heap.size fuel (.slice ad xs.length cap)) := (hb1.block w.heap.size (by simp)).trans (heap_alloc_new w _)
  have HB1 : Hid (Below w.heap.size w w1) := (below_one w _).trans (hb1.mono (by simp))
  clear hb1
  go_wp2_with fail
  refine (awake_true w1 (HT.out.below HB1.out (Nat.le_refl _))).mono ?_
  rintro e w2 ⟨rfl, hb2⟩
  have HP2 := hide (HP1.out.grown (grown_below hb2 none) (by simp))
  have HB2 : Hid (Below w.heap.size w w2) := HB1.out.trans (hb2.mono HB1.out.size)
  clear hb2 HB1 HP1
  by_cases hz : E = 0 ∨ E = 56 ∨ E = 50
  · have ha0 := check_other fuel xs E at_ HCE.out hz
    subst ha0
    rcases hz with rfl | rfl | rfl
    · go_wp2
      go_ret
      exact ⟨rfl, HB2.out⟩
    · go_wp2
      go_ret
      exact ⟨rfl, HB2.out⟩
    · go_wp2
      go_ret
      exact ⟨rfl, HB2.out⟩
  have e1 : (E == 0) = false := beq_eq_false_iff_ne.2 (fun e => hz (.inl e))
  have e2 : (E == 56) = false := beq_eq_false_iff_ne.2 (fun e => hz (.inr (.inl e)))
  have e3 : (E == 50) = false := beq_eq_false_iff_ne.2 (fun e => hz (.inr (.inr e)))
  obtain ⟨k0, rfl, hk0, hk64, hchk⟩ := pl_check fuel xs E at_ HCE.out (fun e => hz (.inl e)) (fun e => hz (.inr (.inl e))) (fun e => hz (.inr (.inr e)))
  by_cases hk1 : k0 = 0
  · subst hk1
    go_wp2
    go_ret
    exact ⟨rfl, HB2.out⟩
  have e4 : ((k0 : Int) == 0) = false := beq_eq_false_iff_ne.2 (by omega)
  have e5 : ¬ (xs.length : Int) ≤ (k0 : Int) := by omega
  have p0 := HP2.out.c0
  have p1 := HP2.out.c1
  have hPl := HP2.out.lt
  have HCK := hide hchk
  clear hchk hz
  obtain ⟨gb, go_, hgo, hgl, hgc⟩ : ∃ b off, ad = some ⟨b, off, none⟩ ∧ b < w.heap.size ∧ ∀ j, j < xs.length → ∀ i u, (xs[j]!).cs[i]? = some u → w.cell? ⟨b, off + j * 6 + i, none⟩ = some u := by
    obtain ⟨p, cap', hv, h2⟩ := HCd.out
    injection hv with hv1 hv2 hv3
    subst hv1
    exact h2 (by omega)
  subst hgo
  have HGC := hide hgc
  clear hgc
  go_wp2_with fail
  have e6 : decide (xs.length ≤ k0) = false := decide_eq_false (by omega)
  simp only [e6]
  have HPr : Hid (Prg w2.heap.size w2.heap.size (w2.alloc (.cells #[.int .i64 fuel, .slice none 0 0] 25)) fuel (.slice none 0 0) (Pg.plP k0 xs 0)) := ⟨heap_alloc_new w2 _, World.ownsRow_nil _ _ _ _, fun g hg => (by cases hg), Nat.le_refl _⟩
  have HBq : Hid (Below w2.heap.size w2 (w2.alloc (.cells #[.int .i64 fuel, .slice none 0 0] 25))) := below_one w2 _
  generalize w2.alloc (.cells #[.int .i64 fuel, .slice none 0 0] 25) = W0 at *
  clear p0 p1
  go_loopw [6] (fun s wr => ∃ (k : Nat) (v : Value), k ≤ xs.length ∧ s = .int .i64 (k : Int) ∧ Hid (Prg w2.heap.size w2.heap.size wr fuel v (Pg.plP k0 xs k)) ∧ Hid (Below w2.heap.size w2 wr)) (fun s _ => xs.length - (intOf s).toNat)
  case atStart => exact ⟨0, _, Nat.zero_le _, rfl, HPr, HBq⟩
  case round =>
    obtain ⟨k, v, hk, rfl, HP, HB⟩ := hrel
    clear HPr HBq
    have hq : Pb wr w.heap.size fuel (.slice (some ⟨gb, go_, none⟩) xs.length cap) := (HB.out.block _ hPl).trans HP2.out
    have q1 := hq.c1
    obtain ⟨adv, capv, rfl⟩ := own_slice HP.out.row
    rw [pl_len] at HP
    by_cases hlt : k < xs.length
    · obtain ⟨x, hxk⟩ : ∃ x, xs[k]! = x := ⟨_, rfl⟩
      have hc : ∀ i u, x.cs[i]? = some u → wr.cell? ⟨gb, go_ + k * 6 + i, none⟩ = some u := fun i u hi =>
        (HB.out.cell (p := ⟨gb, go_ + k * 6 + i, none⟩) (by show gb < w2.heap.size; omega)).trans ((HB2.out.cell (p := ⟨gb, go_ + k * 6 + i, none⟩) hgl).trans (HGC.out k hlt i u (by rw [hxk]; exact hi)))
      have c0 := hc 0 _ rfl
      have c1 := hc 1 _ rfl
      have c2 := hc 2 _ rfl
      have c3 := hc 3 _ rfl
      have c4 := hc 4 _ rfl
      have c5 := hc 5 _ rfl
      simp only [Nat.add_zero] at c0
      have HXK := hide hxk
      clear hc hxk
      have r1 := HP.out.blk.c1
      have rz := HP.out.blk.z 1
      have hql := HP.out.blk.lt
      have hqn : w2.heap.size ≠ wr.heap.size := by omega
      obtain ⟨i0, hi0, hz0, hz1, hz2⟩ := info_parts Tryz.infoI
      by_cases hka : k0 ≤ k
      · have b1 : (k0 : Int) ≤ (k : Int) := by omega
        have pl_step : Pg.plP k0 xs (k + 1) = Pg.plP k0 xs k ++ [haltI] := by rw [pl_succ, if_pos hka]
        have hPr3 : Prg w2.heap.size w2.heap.size (wr.alloc (.cells #[.int .i64 24, .int .i64 0, .int .i64 0, .int .i64 0, .int .i64 0, .int .u64 0] 39)) fuel (.slice adv k capv) (Pg.plP k0 xs k) := ⟨HP.out.blk.grown (grown_one wr _ none) (by simp), own_grown HP.out.row (grown_one wr _ none) (fun _ _ => by simp), HP.out.apt, HP.out.low⟩
        have HP3 := hide hPr3
        have HI3 : Hid (Ib (wr.alloc (.cells #[.int .i64 24, .int .i64 0, .int .i64 0, .int .i64 0, .int .i64 0, .int .u64 0] 39)) wr.heap.size haltI) := heap_alloc_new wr _
        have HR3 : Hid ((wr.alloc (.cells #[.int .i64 24, .int .i64 0, .int .i64 0, .int .i64 0, .int .i64 0, .int .u64 0] 39)).ownsRow w2.heap.size 39 6 (.slice adv k capv) k (Pg.flat (Pg.plP k0 xs k))) := by have h1 := hPr3.row; rw [pl_len] at h1; exact h1
        clear hPr3
        go_wp2_with (at_builtin; refine wpList_append_lies _ rfl (.tmp 62) (.tmp 64) 23 rfl w2.heap.size 39 i0 (.agg #[.int .i64 0, .int .i64 0, .int .i64 0, .int .i64 0, .int .i64 0, .int .u64 0]) 6 48 Tryz.underlying23 hi0 hz0 hz1 hz2 rfl (by decide) (.slice adv k capv) k (Pg.flat (Pg.plP k0 xs k)) rfl (own_grown HR3.out (grown_one _ (.cells #[.int .i64 24, .int .i64 0, .int .i64 0, .int .i64 0, .int .i64 0, .int .u64 0] 39) none) (fun _ _ => by simp)) ⟨wr.heap.size + 1, 0, none⟩ 1 1 [.int .i64 24, .int .i64 0, .int .i64 0, .int .i64 0, .int .i64 0, .int .u64 0] rfl (by simp) (World.news_of_block (cs := #[.int .i64 24, .int .i64 0, .int .i64 0, .int .i64 0, .int .i64 0, .int .u64 0]) (t := 39) (fr := (0, 0)) (by have h1 := heap_alloc_new (wr.alloc (.cells #[.int .i64 24, .int .i64 0, .int .i64 0, .int .i64 0, .int .i64 0, .int .u64 0] 39)) (.cells #[.int .i64 24, .int .i64 0, .int .i64 0, .int .i64 0, .int .i64 0, .int .u64 0] 39); rw [World.size_alloc] at h1; exact h1)) (by simp [Value.oneCell']) (by decide) (by unfold maxLen; omega) (by omega) (by rw [World.size_alloc, World.size_alloc]; omega) (wr.heap.size + 2) (by rw [World.size_alloc, World.size_alloc]) ?_; intro g cap' w7 hown hgrow hat hlt7; obtain ⟨q1, q2, q3, q4⟩ := line_added (x := haltI) HP3.out HI3.out (by rw [pl_len]; exact hown) hgrow (by rw [World.size_alloc]; exact hat) (by omega) (fun e => by have := HR3.out.lt _ e; rw [World.size_alloc] at this; have h5 := (HP.out.row.lt _ e).2; omega); rw [← pl_step, pl_len] at q1; rw [pl_len] at q2; have d1 : w7.cell? ⟨w2.heap.size, 1, none⟩ = some (.slice adv k capv) := hgrow.cell (Lib.cell?_alloc_some _ (Lib.cell?_alloc_some _ r1)) (fun e => absurd (HP3.out.apt _ e.symm) (Nat.lt_irrefl _)); have dz : w7.frozen? ⟨w2.heap.size, 1, none⟩ = false := (hgrow.frozen_far ⟨w2.heap.size, 1, none⟩ (by rw [World.size_alloc, World.size_alloc]; show w2.heap.size < _; omega) (fun e => absurd (HP3.out.apt _ e.symm) (Nat.lt_irrefl _))).trans ((HP3.out.blk.grown (grown_one _ (.cells #[.int .i64 24, .int .i64 0, .int .i64 0, .int .i64 0, .int .i64 0, .int .u64 0] 39) none) (by simp)).z 1); have HQ1 := hide q1; have HQ2 := hide (q2.below HP3.out (by rw [World.size_alloc]; omega)); clear q1 q2 q3 q4 hown hgrow hat hlt7)
        have HBn := hide ((HB.out.trans ((below_one wr (.cells #[.int .i64 24, .int .i64 0, .int .i64 0, .int .i64 0, .int .i64 0, .int .u64 0] 39)).mono (by omega))).trans (HQ2.out))
        go_roundw
        case rel => exact ⟨k + 1, _, by omega, by go_num, HQ1, HBn⟩
        case measure => simp [intOf]; omega
      · have b1 : ¬ (k0 : Int) ≤ (k : Int) := by omega
        have pl_step : Pg.plP k0 xs (k + 1) = Pg.plP k0 xs k ++ [x] := by rw [pl_succ, if_neg hka, HXK.out]
        have hPr3 : Prg w2.heap.size w2.heap.size (wr.alloc (.cells #[.int .i64 x.op, .int .i64 x.a, .int .i64 x.b, .int .i64 x.c, .int .i64 x.n, .int .u64 (x.k : Int)] 39)) fuel (.slice adv k capv) (Pg.plP k0 xs k) := ⟨HP.out.blk.grown (grown_one wr _ none) (by simp), own_grown HP.out.row (grown_one wr _ none) (fun _ _ => by simp), HP.out.apt, HP.out.low⟩
        have HP3 := hide hPr3
        have HI3 : Hid (Ib (wr.alloc (.cells #[.int .i64 x.op, .int .i64 x.a, .int .i64 x.b, .int .i64 x.c, .int .i64 x.n, .int .u64 (x.k : Int)] 39)) wr.heap.size x) := heap_alloc_new wr _
        have HR3 : Hid ((wr.alloc (.cells #[.int .i64 x.op, .int .i64 x.a, .int .i64 x.b, .int .i64 x.c, .int .i64 x.n, .int .u64 (x.k : Int)] 39)).ownsRow w2.heap.size 39 6 (.slice adv k capv) k (Pg.flat (Pg.plP k0 xs k))) := by have h1 := hPr3.row; rw [pl_len] at h1; exact h1
        clear hPr3
        go_wp2_with (at_builtin; refine wpList_append_lies _ rfl (.tmp 62) (.tmp 64) 23 rfl w2.heap.size 39 i0 (.agg #[.int .i64 0, .int .i64 0, .int .i64 0, .int .i64 0, .int .i64 0, .int .u64 0]) 6 48 Tryz.underlying23 hi0 hz0 hz1 hz2 rfl (by decide) (.slice adv k capv) k (Pg.flat (Pg.plP k0 xs k)) rfl (own_grown HR3.out (grown_one _ (.cells #[.int .i64 x.op, .int .i64 x.a, .int .i64 x.b, .int .i64 x.c, .int .i64 x.n, .int .u64 (x.k : Int)] 39) none) (fun _ _ => by simp)) ⟨wr.heap.size + 1, 0, none⟩ 1 1 [.int .i64 x.op, .int .i64 x.a, .int .i64 x.b, .int .i64 x.c, .int .i64 x.n, .int .u64 (x.k : Int)] rfl (by simp) (World.news_of_block (cs := #[.int .i64 x.op, .int .i64 x.a, .int .i64 x.b, .int .i64 x.c, .int .i64 x.n, .int .u64 (x.k : Int)]) (t := 39) (fr := (0, 0)) (by have h1 := heap_alloc_new (wr.alloc (.cells #[.int .i64 x.op, .int .i64 x.a, .int .i64 x.b, .int .i64 x.c, .int .i64 x.n, .int .u64 (x.k : Int)] 39)) (.cells #[.int .i64 x.op, .int .i64 x.a, .int .i64 x.b, .int .i64 x.c, .int .i64 x.n, .int .u64 (x.k : Int)] 39); rw [World.size_alloc] at h1; exact h1)) (by simp [Value.oneCell']) (by decide) (by unfold maxLen; omega) (by omega) (by rw [World.size_alloc, World.size_alloc]; omega) (wr.heap.size + 2) (by rw [World.size_alloc, World.size_alloc]) ?_; intro g cap' w7 hown hgrow hat hlt7; obtain ⟨q1, q2, q3, q4⟩ := line_added (x := x) HP3.out HI3.out (by rw [pl_len]; exact hown) hgrow (by rw [World.size_alloc]; exact hat) (by omega) (fun e => by have := HR3.out.lt _ e; rw [World.size_alloc] at this; have h5 := (HP.out.row.lt _ e).2; omega); rw [← pl_step, pl_len] at q1; rw [pl_len] at q2; have d1 : w7.cell? ⟨w2.heap.size, 1, none⟩ = some (.slice adv k capv) := hgrow.cell (Lib.cell?_alloc_some _ (Lib.cell?_alloc_some _ r1)) (fun e => absurd (HP3.out.apt _ e.symm) (Nat.lt_irrefl _)); have dz : w7.frozen? ⟨w2.heap.size, 1, none⟩ = false := (hgrow.frozen_far ⟨w2.heap.size, 1, none⟩ (by rw [World.size_alloc, World.size_alloc]; show w2.heap.size < _; omega) (fun e => absurd (HP3.out.apt _ e.symm) (Nat.lt_irrefl _))).trans ((HP3.out.blk.grown (grown_one _ (.cells #[.int .i64 x.op, .int .i64 x.a, .int .i64 x.b, .int .i64 x.c, .int .i64 x.n, .int .u64 (x.k : Int)] 39) none) (by simp)).z 1); have HQ1 := hide q1; have HQ2 := hide (q2.below HP3.out (by rw [World.size_alloc]; omega)); clear q1 q2 q3 q4 hown hgrow hat hlt7)
        have HBn := hide ((HB.out.trans ((below_one wr (.cells #[.int .i64 x.op, .int .i64 x.a, .int .i64 x.b, .int .i64 x.c, .int .i64 x.n, .int .u64 (x.k : Int)] 39)).mono (by omega))).trans (HQ2.out))
        go_roundw
        case rel => exact ⟨k + 1, _, by omega, by go_num, HQ1, HBn⟩
        case measure => simp [intOf]; omega
    · obtain rfl : k = xs.length := by omega
      have hki : ¬ (xs.length : Int) < (xs.length : Int) := by omega
      have r0 := HP.out.blk.c0
      have r1 := HP.out.blk.c1
      have HC2 := hide (check_any fuel (Pg.plP k0 xs xs.length) (fun y hy => by
        unfold Pg.plP at hy
        obtain ⟨i, hi, rfl⟩ := List.mem_map.1 hy
        split
        · exact (by decide : (0 : Nat) < 18446744073709551616)
        · have hi' := List.mem_range.1 hi
          rw [getElem!_pos xs i hi']; exact (HX.out _ (List.getElem_mem hi')).k) (.slice adv xs.length capv) wr (by
            have h1 := own_cd (xs := Pg.plP k0 xs xs.length) (by have h2 := HP.out.row; rw [pl_len]; rw [pl_len] at h2; exact h2)
            exact h1))
      rw [HCK.out] at HC2
      go_wp2_with fail
      refine HC2.out.mono ?_
      rintro e w5 ⟨rfl, hb5⟩
      have HB5 : Hid (Below w.heap.size w w5) := (HB2.out.trans (HB.out.mono HB2.out.size)).trans (hb5.mono (Nat.le_trans HB2.out.size HB.out.size))
      clear hb5
      go_wp2
      go_ret
      exact ⟨rfl, HB5.out⟩
end Go.Proofs.YthfbkpkogihcbabGreatDoor
end
