import Derived.Test.YtjkkjijlblfgaaaGreatDoorMgAX
import Derived.Test.YtjkkjijlblfgaaaGreatDoorMgAL
import Derived.Deep.QuietTactic

section
namespace Go.Proofs.YtjkkjijlblfgaaaGreatDoor
open Go.RowKit Go.Shelf

def exI : List In := [⟨1, 0, 0, 0, 0, 4609434218613702656⟩, ⟨21, 0, 0, 0, 0, 0⟩, ⟨14, 0, 0, 0, 3, 0⟩]
theorem ex_check : Pg.checkE 9 exI = (0, 0) := by kernel_rfl
theorem ex_print : Pg.printS 9 exI = ⟨#[102, 117, 101, 108, 32, 57, 10, 115, 101, 116, 32, 114, 48, 32, 51, 112, 45, 49, 10, 101, 109, 105, 116, 32, 114, 48, 10, 106, 117, 109, 112, 32, 51, 10]⟩ := by kernel_rfl
theorem ex_parse : Pg.parseS ⟨#[102, 117, 101, 108, 32, 57, 10, 115, 101, 116, 32, 114, 48, 32, 51, 112, 45, 49, 10, 101, 109, 105, 116, 32, 114, 48, 10, 106, 117, 109, 112, 32, 51, 10]⟩ = ((9, exI), (0, 0)) := by kernel_rfl
theorem ex_pack : Pg.packS 9 exI = ⟨#[9, 3, 1, 0, 63, 248, 0, 0, 0, 0, 0, 0, 21, 0, 14, 3]⟩ := by kernel_rfl
theorem ex_unpack : Pg.unpackS ⟨#[9, 3, 1, 0, 63, 248, 0, 0, 0, 0, 0, 0, 21, 0, 14, 3]⟩ = ((9, exI), 0) := by kernel_rfl
theorem ex_zero : Pg.checkE 0 [] = (56, 0) := by kernel_rfl
theorem ex_none : Pg.parseS ⟨#[]⟩ = ((0, []), (55, 1)) := by kernel_rfl
theorem ex_empty : Pg.unpackS ⟨#[]⟩ = ((0, []), 54) := by kernel_rfl
theorem exI_k : ∀ x ∈ exI, x.k < 18446744073709551616 := by decide

theorem cd_block {w : World} {b cap : Nat} {xs : List In} {t : TypeId} {fz : Nat × Nat} (h : w.heap[b]? = some (.cells (Pg.flat xs).toArray t fz)) : Cd w (.slice (some ⟨b, 0, none⟩) xs.length cap) xs := by
  refine ⟨_, cap, rfl, fun _ => ⟨b, 0, rfl, lt_of_block h, fun j hj i u hi => ?_⟩⟩
  have hi6 : i < 6 := (List.getElem?_eq_some_iff.1 hi).1
  rw [← flat_get In.cs 6 (fun _ => rfl) xs j i hj hi6] at hi
  simp only [World.cell?, h]
  show (Pg.flat xs).toArray[0 + j * 6 + i]? = some u
  rw [Nat.zero_add, List.getElem?_toArray]
  exact hi
theorem example_any (w : World) : Calls Tryz.prog 42 #[] w fun e w' => ∃ v, e = .returned (.agg #[.int .i64 9, v]) ∧ Cd w' v exI ∧ Below w.heap.size w w' := by
  go_enter Tryz.func42, Tryz.ntmps42
  go_wp2
  refine bodyPost_ret (by rw [results_one rfl]; go_simp; rfl) rfl ?_
  refine ⟨_, rfl, cd_block (xs := exI) (t := 48) (fz := (0, 0)) ?_, (below_one w _).trans ((below_one _ _).mono (by simp))⟩
  have := heap_alloc_new (w.alloc (.cells #[.int .i64 9, .slice (some ⟨w.heap.size + 1, 0, none⟩) 3 3] 24)) (.cells (Pg.flat exI).toArray 48)
  rw [World.size_alloc] at this
  exact this
theorem guardI (op : BinOp) (x y : Operand) (xs ys : Array Value) (w : World) : (eqGuard op 48 x y (.agg xs) (.agg ys)).run Tryz.prog w = .ok () w := run_eqGuard_agg w op _ x y xs ys (by kernel_rfl)
theorem eqI_self (x : In) (w : World) : (Op.equalIn 10000 48 (.agg #[.int .i64 x.op, .int .i64 x.a, .int .i64 x.b, .int .i64 x.c, .int .i64 x.n, .int .u64 (x.k : Int)]) (.agg #[.int .i64 x.op, .int .i64 x.a, .int .i64 x.b, .int .i64 x.c, .int .i64 x.n, .int .u64 (x.k : Int)])).run Tryz.prog w = .ok true w := by
  have u3 := Tryz.underlying3
  have a3 := Tryz.isAgg3
  have z3 := Tryz.sizeOf3
  have u9 := Tryz.underlying46
  have a9 := Tryz.isAgg46
  have z9 := Tryz.sizeOf46
  have hS : Tryz.prog.underlying 48 = some (.struct (Tryz.prog.fieldsOf 48)) := by kernel_rfl
  have hp : Tryz.prog.stoodInHeld 48 = false := by kernel_rfl
  rw [show (10000 : Nat) = 9999 + 1 from rfl, run_equalIn_agg w 9999 48 _ _ hS hp]
  simp only [Program.fieldsOf, Tryz.underlying48]
  go_simp
theorem neqI_self (x : In) (w : World) : (binOp .neq 48 (.agg #[.int .i64 x.op, .int .i64 x.a, .int .i64 x.b, .int .i64 x.c, .int .i64 x.n, .int .u64 (x.k : Int)]) (.agg #[.int .i64 x.op, .int .i64 x.a, .int .i64 x.b, .int .i64 x.c, .int .i64 x.n, .int .u64 (x.k : Int)])).run Tryz.prog w = .ok (.bool false) w := by
  rw [run_neq_struct, eqI_self]
  rfl
set_option maxRecDepth 10000 in
set_option maxHeartbeats 1000000 in
theorem same_self (f : Int) (xs : List In) (v1 v2 : Value) (w : World) (h1 : Cd w v1 xs) (h2 : Cd w v2 xs) (hl : xs.length ≤ 140737488355328) :
    Calls Tryz.prog 7 #[.agg #[.int .i64 f, v1], .agg #[.int .i64 f, v2]] w fun e w' => e = .returned (.bool true) ∧ Below w.heap.size w w' := by
  obtain ⟨p1, c1, rfl, k1⟩ := h1
  obtain ⟨p2, c2, rfl, k2⟩ := h2
  have HK1 := hide k1
  have HK2 := hide k2
  clear k1 k2
  have b0 : (f != f) = false := by simp
  have b1 : ((xs.length : Int) != (xs.length : Int)) = false := by simp
  go_enter Tryz.func7, Tryz.ntmps7
  go_wp2_with fail
  have HB0 : Hid (Below w.heap.size w ((w.alloc (.cells #[.int .i64 f, .slice p1 xs.length c1] 24)).alloc (.cells #[.int .i64 f, .slice p2 xs.length c2] 24))) := (below_one w _).trans ((below_one _ _).mono (by simp))
  have HP1 : Hid (Pb ((w.alloc (.cells #[.int .i64 f, .slice p1 xs.length c1] 24)).alloc (.cells #[.int .i64 f, .slice p2 xs.length c2] 24)) w.heap.size f (.slice p1 xs.length c1)) := (Below.heap_alloc _ _ _ (by simp)).trans (heap_alloc_new w _)
  have HP2 : Hid (Pb ((w.alloc (.cells #[.int .i64 f, .slice p1 xs.length c1] 24)).alloc (.cells #[.int .i64 f, .slice p2 xs.length c2] 24)) (w.heap.size + 1) f (.slice p2 xs.length c2)) := by
    have := heap_alloc_new (w.alloc (.cells #[.int .i64 f, .slice p1 xs.length c1] 24)) (.cells #[.int .i64 f, .slice p2 xs.length c2] 24)
    rw [World.size_alloc] at this
    exact this
  generalize (w.alloc (.cells #[.int .i64 f, .slice p1 xs.length c1] 24)).alloc (.cells #[.int .i64 f, .slice p2 xs.length c2] 24) = W0 at *
  go_loopw [5] (fun s wr => ∃ (k n : Nat), k ≤ xs.length ∧ s = .int .i64 (k : Int) ∧ wr = W0.drewN n) (fun s _ => xs.length - (intOf s).toNat)
  case atStart => exact ⟨0, 0, Nat.zero_le _, rfl, rfl⟩
  case round =>
    obtain ⟨k, n, hk, rfl, hwr⟩ := hrel
    have hB : Below w.heap.size w wr := by rw [hwr]; exact ⟨HB0.out.os, HB0.out.tape, HB0.out.output, HB0.out.size, HB0.out.block⟩
    have hP1 : Pb wr w.heap.size f (.slice p1 xs.length c1) := by rw [hwr]; exact HP1.out
    have hP2 : Pb wr (w.heap.size + 1) f (.slice p2 xs.length c2) := by rw [hwr]; exact HP2.out
    have q1 := hP1.c1
    have q2 := hP2.c1
    have HB := hide hB
    have HWR := hide hwr
    by_cases hlt : k < xs.length
    · obtain ⟨g1, o1, rfl, l1, m1⟩ := HK1.out (by omega)
      obtain ⟨g2, o2, rfl, l2, m2⟩ := HK2.out (by omega)
      have hc1 : ∀ i u, (xs[k]!).cs[i]? = some u → wr.cell? ⟨g1, o1 + k * 6 + i, none⟩ = some u := fun i u hi => (hB.cell (p := ⟨g1, o1 + k * 6 + i, none⟩) l1).trans (m1 k hlt i u hi)
      have hc2 : ∀ i u, (xs[k]!).cs[i]? = some u → wr.cell? ⟨g2, o2 + k * 6 + i, none⟩ = some u := fun i u hi => (hB.cell (p := ⟨g2, o2 + k * 6 + i, none⟩) l2).trans (m2 k hlt i u hi)
      have x0 := hc1 0 _ rfl
      have x1 := hc1 1 _ rfl
      have x2 := hc1 2 _ rfl
      have x3 := hc1 3 _ rfl
      have x4 := hc1 4 _ rfl
      have x5 := hc1 5 _ rfl
      have y0 := hc2 0 _ rfl
      have y1 := hc2 1 _ rfl
      have y2 := hc2 2 _ rfl
      have y3 := hc2 3 _ rfl
      have y4 := hc2 4 _ rfl
      have y5 := hc2 5 _ rfl
      simp only [Nat.add_zero] at x0 y0
      generalize xs[k]! = x at *
      have hq := neqI_self x
      have hgd : ∀ y z w, (eqGuard .neq 48 y z (.agg #[.int .i64 x.op, .int .i64 x.a, .int .i64 x.b, .int .i64 x.c, .int .i64 x.n, .int .u64 (x.k : Int)]) (.agg #[.int .i64 x.op, .int .i64 x.a, .int .i64 x.b, .int .i64 x.c, .int .i64 x.n, .int .u64 (x.k : Int)])).run Tryz.prog w = .ok () w := fun y z w => guardI _ _ _ _ _ w
      have hki : (k : Int) < (xs.length : Int) := by omega
      clear m1 m2 hc1 hc2 hP1 hP2 hB hwr
      go_wp2_with fail
      go_quiet (fail)
      go_wp2
      go_roundw
      case rel => exact ⟨k + 1, n + nq, by omega, by go_num, by rw [HWR.out]; simp [World.drewN, Nat.add_assoc]⟩
      case measure => simp [intOf]; omega
    · obtain rfl : k = xs.length := by omega
      have hki : ¬ (xs.length : Int) < (xs.length : Int) := by omega
      clear hP1 hP2 hB hwr
      go_wp2
      go_ret
      exact ⟨rfl, HB.out⟩
end Go.Proofs.YtjkkjijlblfgaaaGreatDoor
end

section
namespace Go.Proofs.YtjkkjijlblfgaaaGreatDoor
open Go.RowKit Go.Shelf

theorem check_ex (v : Value) (w : World) (h : Cd w v exI) : Calls Tryz.prog 14 #[.agg #[.int .i64 9, v]] w fun e w' => e = .returned (.tuple #[.int .i64 0, .int .i64 0]) ∧ Below w.heap.size w w' := by
  have := check_any 9 exI exI_k v w h; rw [ex_check] at this; exact this
theorem print_ex (v : Value) (w : World) (h : Cd w v exI) (hT : Libs w) : Calls Tryz.prog 43 #[.agg #[.int .i64 9, v]] w fun e w' => e = .returned (.tuple #[.string ⟨#[102, 117, 101, 108, 32, 57, 10, 115, 101, 116, 32, 114, 48, 32, 51, 112, 45, 49, 10, 101, 109, 105, 116, 32, 114, 48, 10, 106, 117, 109, 112, 32, 51, 10]⟩, .int .i64 0]) ∧ Below w.heap.size w w' := by
  have := print_any 9 exI exI_k v w h hT.tabs; rw [ex_check, ex_print] at this; exact this
theorem pack_ex (v : Value) (w : World) (h : Cd w v exI) : Calls Tryz.prog 44 #[.agg #[.int .i64 9, v]] w fun e w' => e = .returned (.tuple #[.string ⟨#[9, 3, 1, 0, 63, 248, 0, 0, 0, 0, 0, 0, 21, 0, 14, 3]⟩, .int .i64 0]) ∧ Below w.heap.size w w' := by
  have := pack_any 9 exI exI_k v w h; rw [ex_check, ex_pack] at this; exact this
theorem parse_ex (w : World) (hT : Libs w) : Calls Tryz.prog 5 #[.string ⟨#[102, 117, 101, 108, 32, 57, 10, 115, 101, 116, 32, 114, 48, 32, 51, 112, 45, 49, 10, 101, 109, 105, 116, 32, 114, 48, 10, 106, 117, 109, 112, 32, 51, 10]⟩] w fun e w' => ∃ v, e = .returned (.tuple #[.agg #[.int .i64 9, v], .int .i64 0, .int .i64 0]) ∧ Cd w' v exI ∧ Below w.heap.size w w' := by
  have := parseText_any ⟨#[102, 117, 101, 108, 32, 57, 10, 115, 101, 116, 32, 114, 48, 32, 51, 112, 45, 49, 10, 101, 109, 105, 116, 32, 114, 48, 10, 106, 117, 109, 112, 32, 51, 10]⟩ (by decide) w hT
  rw [ex_parse] at this
  exact this.mono fun e w' ⟨v, h1, h2, h3⟩ => ⟨v, h1, own_cd h2, h3⟩
theorem unpack_ex (w : World) : Calls Tryz.prog 10 #[.string ⟨#[9, 3, 1, 0, 63, 248, 0, 0, 0, 0, 0, 0, 21, 0, 14, 3]⟩] w fun e w' => ∃ v, e = .returned (.tuple #[.agg #[.int .i64 9, v], .int .i64 0]) ∧ Cd w' v exI ∧ Below w.heap.size w w' := by
  have := unpack_any ⟨#[9, 3, 1, 0, 63, 248, 0, 0, 0, 0, 0, 0, 21, 0, 14, 3]⟩ w
  rw [ex_unpack] at this
  exact this.mono fun e w' ⟨v, h1, h2, h3⟩ => ⟨v, h1, own_cd h2, h3⟩
theorem cd_slice {w : World} {v : Value} {xs : List In} (h : Cd w v xs) : ∃ ad cap, v = .slice ad xs.length cap := by
  obtain ⟨p, cap, hv, _⟩ := h
  exact ⟨p, cap, hv⟩
theorem Cd.drew {w : World} {v : Value} {xs : List In} (h : Cd w v xs) : Cd w.drew v xs := ⟨h.form⟩
set_option maxRecDepth 20000 in
set_option maxHeartbeats 400000 in
theorem known_true (w : World) (hT : Libs w) : Calls Tryz.prog 20 #[] w fun e w' => e = .returned (.bool true) ∧ Below w.heap.size w w' := by
  have HT := hide hT
  clear hT
  go_enter Tryz.func20, Tryz.ntmps20
  go_wp2_with fail
  refine (example_any w).mono ?_
  rintro e w1 ⟨v1, rfl, hC1, hb1⟩
  go_wp2_with fail
  refine (check_ex v1 w1 hC1).mono ?_
  rintro e w2 ⟨rfl, hb2⟩
  have HB2 : Hid (Below w.heap.size w w2) := hb1.trans (hb2.mono hb1.size)
  clear hb1 hb2 hC1
  go_wp2_with fail
  refine (example_any w2).mono ?_
  rintro e w3 ⟨v3, rfl, hC3, hb3⟩
  have HB3 : Hid (Below w.heap.size w w3) := HB2.out.trans (hb3.mono HB2.out.size)
  clear hb3 HB2
  go_wp2_with fail
  refine (print_ex v3 w3 hC3 (HT.out.below HB3.out (Nat.le_refl _))).mono ?_
  rintro e w4 ⟨rfl, hb4⟩
  have HB4 : Hid (Below w.heap.size w w4) := HB3.out.trans (hb4.mono HB3.out.size)
  clear hb4 HB3 hC3
  go_wp2_with fail
  refine (parse_ex w4 (HT.out.below HB4.out (Nat.le_refl _))).mono ?_
  rintro e w5 ⟨v5, rfl, hC5, hb5⟩
  have HB5 : Hid (Below w.heap.size w w5) := HB4.out.trans (hb5.mono HB4.out.size)
  clear hb5 HB4
  obtain ⟨ad5, cap5, rfl⟩ := cd_slice hC5
  have HC5 := hide (hC5.below (below_one w5 (.cells #[.int .i64 9, .slice ad5 exI.length cap5] 24)) (Nat.le_refl _))
  clear hC5
  go_wp2_with fail
  have HP6 : Hid (Pb (w5.alloc (.cells #[.int .i64 9, .slice ad5 exI.length cap5] 24)) w5.heap.size 9 (.slice ad5 exI.length cap5)) := heap_alloc_new w5 _
  have HB6 := hide (HB5.out.alloc HB5.out.size (.cells #[.int .i64 9, .slice ad5 exI.length cap5] 24))
  clear HB5
  refine (example_any _).mono ?_
  rintro e w7 ⟨v7, rfl, hC7, hb7⟩
  have HP7 := hide (HP6.out.grown (grown_below hb7 none) (by simp))
  have HC57 := hide (HC5.out.below hb7 (Nat.le_refl _))
  have HB7 : Hid (Below w.heap.size w w7) := HB6.out.trans (hb7.mono HB6.out.size)
  clear hb7 HP6 HB6 HC5
  go_wp2_with fail
  refine (pack_ex v7 w7 hC7).mono ?_
  rintro e w8 ⟨rfl, hb8⟩
  have HP8 := hide (HP7.out.grown (grown_below hb8 none) (by simp))
  have HC58 := hide (HC57.out.below hb8 (Nat.le_refl _))
  have HB8 : Hid (Below w.heap.size w w8) := HB7.out.trans (hb8.mono HB7.out.size)
  clear hb8 HP7 HB7 HC57 hC7
  go_wp2_with fail
  refine (unpack_ex w8).mono ?_
  rintro e w9 ⟨v9, rfl, hC9, hb9⟩
  obtain ⟨ad9, cap9, rfl⟩ := cd_slice hC9
  have HP9 := hide (HP8.out.grown (grown_below hb9 none) (by simp))
  have HC59 := hide (HC58.out.below hb9 (Nat.le_refl _))
  have HB9 : Hid (Below w.heap.size w w9) := HB8.out.trans (hb9.mono HB8.out.size)
  have HPa := hide (HP9.out.grown (grown_one w9 (.cells #[.int .i64 9, .slice ad9 exI.length cap9] 24) none) (by simp))
  have HCa := hide (HC59.out.below (below_one w9 (.cells #[.int .i64 9, .slice ad9 exI.length cap9] 24)) (Nat.le_refl _))
  have HBa := hide (HB9.out.alloc HB9.out.size (.cells #[.int .i64 9, .slice ad9 exI.length cap9] 24))
  have HCb := hide (hC9.below (below_one w9 (.cells #[.int .i64 9, .slice ad9 exI.length cap9] 24)) (Nat.le_refl _))
  have HPb : Hid (Pb (w9.alloc (.cells #[.int .i64 9, .slice ad9 exI.length cap9] 24)) w9.heap.size 9 (.slice ad9 exI.length cap9)) := heap_alloc_new w9 _
  clear hb9 HP8 HB8 HC58 hC9 HP9 HC59 HB9
  go_wp2_with fail
  generalize w9.alloc (.cells #[.int .i64 9, .slice ad9 exI.length cap9] 24) = wa at *
  have a0 := HPa.out.c0
  have a1 := HPa.out.c1
  have b0 := HPb.out.c0
  have b1 := HPb.out.c1
  have HTok : Hid True := trivial
  have HTok2 : Hid True := trivial
  go_region_held3 (fun w' => w'.cell? ⟨w5.heap.size, 0, none⟩ = some (.int .i64 9) ∧ w'.cell? ⟨w5.heap.size, 1, none⟩ = some (.slice ad5 exI.length cap5) ∧ w'.cell? ⟨w9.heap.size, 0, none⟩ = some (.int .i64 9) ∧ w'.cell? ⟨w9.heap.size, 1, none⟩ = some (.slice ad9 exI.length cap9)) (go_keep) (first
    | (go_at_call 42; clear HTok; refine (example_any _).mono ?_; rintro e wb ⟨vb, rfl, hCb, hbb⟩; have HBb := hide hbb; have HCbb := hide hCb; have u0 := (hbb.cell (World.block_lt_of_cell? _ _ a0)).trans a0; have u1 := (hbb.cell (World.block_lt_of_cell? _ _ a1)).trans a1; have u2 := (hbb.cell (World.block_lt_of_cell? _ _ b0)).trans b0; have u3 := (hbb.cell (World.block_lt_of_cell? _ _ b1)).trans b1; clear hbb hCb)
    | (go_at_call 7; clear HTok2; refine (same_self 9 exI (.slice ad5 exI.length cap5) vb wb (HCa.out.drew.below HBb.out (Nat.le_refl _)) HCbb.out (by decide)).mono ?_; rintro e wc ⟨rfl, hbc⟩; have HBc := hide hbc; have t0 := (hbc.cell (World.block_lt_of_cell? _ _ u0)).trans u0; have t1 := (hbc.cell (World.block_lt_of_cell? _ _ u1)).trans u1; have t2 := (hbc.cell (World.block_lt_of_cell? _ _ u2)).trans u2; have t3 := (hbc.cell (World.block_lt_of_cell? _ _ u3)).trans u3; clear hbc)
    | (go_at_call 42; refine (example_any _).mono ?_; rintro e wd ⟨vd, rfl, hCd, hbd⟩; have HBd := hide hbd; have HCd := hide hCd; have s0 := (hbd.cell (World.block_lt_of_cell? _ _ t0)).trans t0; have s1 := (hbd.cell (World.block_lt_of_cell? _ _ t1)).trans t1; have s2 := (hbd.cell (World.block_lt_of_cell? _ _ t2)).trans t2; have s3 := (hbd.cell (World.block_lt_of_cell? _ _ t3)).trans t3; clear hbd hCd)
    | (go_at_call 7; refine (same_self 9 exI (.slice ad9 exI.length cap9) vd wd (((HCb.out.drew.below HBb.out (Nat.le_refl _)).below HBc.out (Nat.le_refl _)).below HBd.out (Nat.le_refl _)) HCd.out (by decide)).mono ?_; rintro e we ⟨rfl, hbe⟩; have HBe := hide hbe; have r0 := (hbe.cell (World.block_lt_of_cell? _ _ s0)).trans s0; have r1 := (hbe.cell (World.block_lt_of_cell? _ _ s1)).trans s1; have r2 := (hbe.cell (World.block_lt_of_cell? _ _ s2)).trans s2; have r3 := (hbe.cell (World.block_lt_of_cell? _ _ s3)).trans s3; clear hbe))
  go_wp2
  go_ret
  have h1 : Below w.heap.size w wa.drew := HBa.out.drew
  have h2 := h1.trans (HBb.out.mono h1.size)
  have h3 := h2.trans (HBc.out.mono h2.size)
  have h4 := h3.trans (HBd.out.mono h3.size)
  exact ⟨rfl, h4.trans (HBe.out.mono h4.size)⟩
end Go.Proofs.YtjkkjijlblfgaaaGreatDoor
end

section
namespace Go.Proofs.YtjkkjijlblfgaaaGreatDoor
open Go.RowKit Go.Shelf

theorem cd_nil (w : World) : Cd w (.slice none 0 0) [] := ⟨⟨none, 0, rfl, fun h => by cases h⟩⟩
theorem check_zero (w : World) : Calls Tryz.prog 14 #[.agg #[.int .i64 0, .slice none 0 0]] w fun e w' => e = .returned (.tuple #[.int .i64 56, .int .i64 0]) ∧ Below w.heap.size w w' := by
  have := check_any 0 [] (fun x hx => by cases hx) _ w (cd_nil w); rw [ex_zero] at this; exact this
theorem parse_zero (w : World) (hT : Libs w) : Calls Tryz.prog 5 #[.string ⟨#[]⟩] w fun e w' => ∃ ad cap, e = .returned (.tuple #[.agg #[.int .i64 0, .slice ad 0 cap], .int .i64 55, .int .i64 1]) ∧ Below w.heap.size w w' := by
  have := parseText_any ⟨#[]⟩ (by decide) w hT
  rw [ex_none] at this
  refine this.mono ?_
  rintro e w' ⟨v, h1, h2, h3⟩
  obtain ⟨ad, cap, rfl⟩ := own_slice h2
  exact ⟨ad, cap, h1, h3⟩
theorem unpack_zero (w : World) : Calls Tryz.prog 10 #[.string ⟨#[]⟩] w fun e w' => ∃ ad cap, e = .returned (.tuple #[.agg #[.int .i64 0, .slice ad 0 cap], .int .i64 54]) ∧ Below w.heap.size w w' := by
  have := unpack_any ⟨#[]⟩ w
  rw [ex_empty] at this
  refine this.mono ?_
  rintro e w' ⟨v, h1, h2, h3⟩
  obtain ⟨ad, cap, rfl⟩ := own_slice h2
  exact ⟨ad, cap, h1, h3⟩
set_option maxRecDepth 20000 in
set_option maxHeartbeats 1000000 in
theorem names_true (w : World) (hT : Libs w) : Calls Tryz.prog 21 #[] w fun e w' => e = .returned (.bool true) ∧ Below w.heap.size w w' := by
  have HT := hide hT
  clear hT
  go_enter Tryz.func21, Tryz.ntmps21
  go_wp2_with fail
  refine (check_zero w).mono ?_
  rintro e w1 ⟨rfl, hb1⟩
  have HB1 := hide hb1
  clear hb1
  go_wp2_with fail
  refine (parse_zero w1 (HT.out.below HB1.out (Nat.le_refl _))).mono ?_
  rintro e w2 ⟨ad, cap, rfl, hb2⟩
  have HB2 : Hid (Below w.heap.size w w2) := HB1.out.trans (hb2.mono HB1.out.size)
  have HB3 := hide (HB2.out.alloc HB2.out.size (.cells #[.int .i64 0, .slice ad 0 cap] 24))
  clear hb2 HB1 HB2
  go_wp2_with fail
  refine (unpack_zero _).mono ?_
  rintro e w4 ⟨ad4, cap4, rfl, hb4⟩
  have HB4 : Hid (Below w.heap.size w w4) := HB3.out.trans (hb4.mono HB3.out.size)
  have HB5 := hide (HB4.out.alloc HB4.out.size (.cells #[.int .i64 0, .slice ad4 0 cap4] 24))
  clear hb4 HB3 HB4
  go_wp2_with fail
  refine (known_true _ (HT.out.below HB5.out (Nat.le_refl _))).mono ?_
  rintro e w6 ⟨rfl, hb6⟩
  have HB6 : Hid (Below w.heap.size w w6) := HB5.out.trans (hb6.mono HB5.out.size)
  clear hb6 HB5
  go_wp2
  go_ret
  exact ⟨rfl, HB6.out⟩
set_option maxHeartbeats 1000000 in
theorem awake_true (w : World) (hT : Libs w) : Calls Tryz.prog 9 #[] w fun e w' => e = .returned (.bool true) ∧ Below w.heap.size w w' := by
  have HT := hide hT
  clear hT
  go_enter Tryz.func9, Tryz.ntmps9
  go_wp2_with fail
  refine (known_true w HT.out).mono ?_
  rintro e w1 ⟨rfl, hb1⟩
  have HB1 := hide hb1
  clear hb1
  go_wp2_with fail
  refine (names_true w1 (HT.out.below HB1.out (Nat.le_refl _))).mono ?_
  rintro e w2 ⟨rfl, hb2⟩
  have HB2 : Hid (Below w.heap.size w w2) := HB1.out.trans (hb2.mono HB1.out.size)
  clear hb2 HB1
  go_wp2
  go_ret
  exact ⟨rfl, HB2.out⟩
end Go.Proofs.YtjkkjijlblfgaaaGreatDoor
end

section
namespace Go.Proofs.YtjkkjijlblfgaaaGreatDoor
open Go.RowKit Go.Shelf

namespace Pg
def words : List ByteArray := [⟨#[]⟩, ⟨#[115, 101, 116]⟩, ⟨#[109, 111, 118, 101]⟩, ⟨#[97, 100, 100]⟩, ⟨#[115, 117, 98]⟩, ⟨#[109, 117, 108]⟩, ⟨#[100, 105, 118]⟩, ⟨#[109, 105, 110]⟩, ⟨#[109, 97, 120]⟩, ⟨#[108, 101, 115, 115]⟩, ⟨#[111, 114, 100, 101, 114]⟩, ⟨#[110, 101, 103]⟩, ⟨#[97, 98, 115]⟩, ⟨#[102, 108, 111, 111, 114]⟩, ⟨#[106, 117, 109, 112]⟩, ⟨#[105, 102]⟩, ⟨#[103, 111, 116, 111]⟩, ⟨#[99, 97, 108, 108]⟩, ⟨#[114, 101, 116]⟩, ⟨#[112, 117, 115, 104]⟩, ⟨#[112, 111, 112]⟩, ⟨#[101, 109, 105, 116]⟩, ⟨#[119, 114, 105, 116, 101]⟩, ⟨#[102, 97, 105, 108]⟩, ⟨#[104, 97, 108, 116]⟩]
def wordP (op : Int) : ByteArray := if op < 0 ∨ 25 ≤ op then ⟨#[]⟩ else words[op.toNat]!
def hasP (op : Int) : Nat × Bool × Bool := if op = 1 then (1, false, true) else if op = 2 ∨ op = 11 ∨ op = 12 ∨ op = 13 then (2, false, false) else if op = 3 ∨ op = 4 ∨ op = 5 ∨ op = 6 ∨ op = 7 ∨ op = 8 ∨ op = 9 ∨ op = 10 then (3, false, false) else if op = 14 ∨ op = 17 then (0, true, false) else if op = 15 then (1, true, false) else if op = 16 ∨ op = 19 ∨ op = 20 ∨ op = 21 ∨ op = 22 ∨ op = 23 then (1, false, false) else (0, false, false)
end Pg
theorem words_cell (w : World) : ∀ j, j < 25 → (w.alloc (.cells (Pg.words.map Value.string).toArray 9)).cell? ⟨w.heap.size, j, none⟩ = some (.string Pg.words[j]!) := by
  intro j hj
  rw [World.cell?_alloc_at _ _ _ _ rfl]
  show (Pg.words.map Value.string).toArray[j]? = _
  rw [List.getElem?_toArray, List.getElem?_map, List.getElem?_eq_getElem (show j < Pg.words.length from hj), getElem!_pos Pg.words j hj]
  rfl
set_option maxRecDepth 20000 in
set_option maxHeartbeats 2000000 in
theorem word_any (op : Int) (w : World) : Calls Tryz.prog 39 #[.int .i64 op] w fun e w' => e = .returned (.string (Pg.wordP op)) ∧ Below w.heap.size w w' := by
  unfold Pg.wordP
  by_cases h1 : op < 0
  · rw [if_pos (.inl h1)]
    go_enter Tryz.func39, Tryz.ntmps39
    go_wp2
    go_ret
    exact ⟨rfl, below_one _ _⟩
  by_cases h2 : 25 ≤ op
  · rw [if_pos (.inr h2)]
    go_enter Tryz.func39, Tryz.ntmps39
    go_wp2
    go_ret
    exact ⟨rfl, below_one _ _⟩
  rw [if_neg (by omega)]
  obtain ⟨n, rfl⟩ : ∃ n : Nat, op = (n : Int) := ⟨op.toNat, by omega⟩
  rw [Int.toNat_natCast]
  have hn : n < 25 := by omega
  have hc := words_cell w n hn
  have hni : (n : Int) < 25 := by omega
  generalize Pg.words[n]! = s at *
  have e0 : (w.alloc (.cells (Pg.words.map Value.string).toArray 9)) = w.alloc (.cells #[.string ⟨#[]⟩, .string ⟨#[115, 101, 116]⟩, .string ⟨#[109, 111, 118, 101]⟩, .string ⟨#[97, 100, 100]⟩, .string ⟨#[115, 117, 98]⟩, .string ⟨#[109, 117, 108]⟩, .string ⟨#[100, 105, 118]⟩, .string ⟨#[109, 105, 110]⟩, .string ⟨#[109, 97, 120]⟩, .string ⟨#[108, 101, 115, 115]⟩, .string ⟨#[111, 114, 100, 101, 114]⟩, .string ⟨#[110, 101, 103]⟩, .string ⟨#[97, 98, 115]⟩, .string ⟨#[102, 108, 111, 111, 114]⟩, .string ⟨#[106, 117, 109, 112]⟩, .string ⟨#[105, 102]⟩, .string ⟨#[103, 111, 116, 111]⟩, .string ⟨#[99, 97, 108, 108]⟩, .string ⟨#[114, 101, 116]⟩, .string ⟨#[112, 117, 115, 104]⟩, .string ⟨#[112, 111, 112]⟩, .string ⟨#[101, 109, 105, 116]⟩, .string ⟨#[119, 114, 105, 116, 101]⟩, .string ⟨#[102, 97, 105, 108]⟩, .string ⟨#[104, 97, 108, 116]⟩] 9) := rfl
  rw [e0] at hc
  clear e0
  go_enter Tryz.func39, Tryz.ntmps39
  go_wp2
  go_ret
  exact ⟨rfl, below_one _ _⟩
set_option maxRecDepth 20000 in
set_option maxHeartbeats 2000000 in
theorem has_any (op : Int) (w : World) : Calls Tryz.prog 29 #[.int .i64 op] w fun e w' => e = .returned (.tuple #[.int .i64 ((Pg.hasP op).1 : Int), .bool (Pg.hasP op).2.1, .bool (Pg.hasP op).2.2]) ∧ w' = w := by
  by_cases h1 : op = 1
  · subst h1
    go_enter Tryz.func29, Tryz.ntmps29
    go_wp2
    go_ret3
    exact ⟨rfl, rfl⟩
  have b1 : (op == 1) = false := beq_eq_false_iff_ne.2 h1
  by_cases h2 : op = 2
  · subst h2
    go_enter Tryz.func29, Tryz.ntmps29
    go_wp2
    go_ret3
    exact ⟨rfl, rfl⟩
  have b2 : (op == 2) = false := beq_eq_false_iff_ne.2 h2
  by_cases h11 : op = 11
  · subst h11
    go_enter Tryz.func29, Tryz.ntmps29
    go_wp2
    go_ret3
    exact ⟨rfl, rfl⟩
  have b11 : (op == 11) = false := beq_eq_false_iff_ne.2 h11
  by_cases h12 : op = 12
  · subst h12
    go_enter Tryz.func29, Tryz.ntmps29
    go_wp2
    go_ret3
    exact ⟨rfl, rfl⟩
  have b12 : (op == 12) = false := beq_eq_false_iff_ne.2 h12
  by_cases h13 : op = 13
  · subst h13
    go_enter Tryz.func29, Tryz.ntmps29
    go_wp2
    go_ret3
    exact ⟨rfl, rfl⟩
  have b13 : (op == 13) = false := beq_eq_false_iff_ne.2 h13
  by_cases h3 : op = 3
  · subst h3
    go_enter Tryz.func29, Tryz.ntmps29
    go_wp2
    go_ret3
    exact ⟨rfl, rfl⟩
  have b3 : (op == 3) = false := beq_eq_false_iff_ne.2 h3
  by_cases h4 : op = 4
  · subst h4
    go_enter Tryz.func29, Tryz.ntmps29
    go_wp2
    go_ret3
    exact ⟨rfl, rfl⟩
  have b4 : (op == 4) = false := beq_eq_false_iff_ne.2 h4
  by_cases h5 : op = 5
  · subst h5
    go_enter Tryz.func29, Tryz.ntmps29
    go_wp2
    go_ret3
    exact ⟨rfl, rfl⟩
  have b5 : (op == 5) = false := beq_eq_false_iff_ne.2 h5
  by_cases h6 : op = 6
  · subst h6
    go_enter Tryz.func29, Tryz.ntmps29
    go_wp2
    go_ret3
    exact ⟨rfl, rfl⟩
  have b6 : (op == 6) = false := beq_eq_false_iff_ne.2 h6
  by_cases h7 : op = 7
  · subst h7
    go_enter Tryz.func29, Tryz.ntmps29
    go_wp2
    go_ret3
    exact ⟨rfl, rfl⟩
  have b7 : (op == 7) = false := beq_eq_false_iff_ne.2 h7
  by_cases h8 : op = 8
  · subst h8
    go_enter Tryz.func29, Tryz.ntmps29
    go_wp2
    go_ret3
    exact ⟨rfl, rfl⟩
  have b8 : (op == 8) = false := beq_eq_false_iff_ne.2 h8
  by_cases h9 : op = 9
  · subst h9
    go_enter Tryz.func29, Tryz.ntmps29
    go_wp2
    go_ret3
    exact ⟨rfl, rfl⟩
  have b9 : (op == 9) = false := beq_eq_false_iff_ne.2 h9
  by_cases h10 : op = 10
  · subst h10
    go_enter Tryz.func29, Tryz.ntmps29
    go_wp2
    go_ret3
    exact ⟨rfl, rfl⟩
  have b10 : (op == 10) = false := beq_eq_false_iff_ne.2 h10
  by_cases h14 : op = 14
  · subst h14
    go_enter Tryz.func29, Tryz.ntmps29
    go_wp2
    go_ret3
    exact ⟨rfl, rfl⟩
  have b14 : (op == 14) = false := beq_eq_false_iff_ne.2 h14
  by_cases h17 : op = 17
  · subst h17
    go_enter Tryz.func29, Tryz.ntmps29
    go_wp2
    go_ret3
    exact ⟨rfl, rfl⟩
  have b17 : (op == 17) = false := beq_eq_false_iff_ne.2 h17
  by_cases h15 : op = 15
  · subst h15
    go_enter Tryz.func29, Tryz.ntmps29
    go_wp2
    go_ret3
    exact ⟨rfl, rfl⟩
  have b15 : (op == 15) = false := beq_eq_false_iff_ne.2 h15
  by_cases h16 : op = 16
  · subst h16
    go_enter Tryz.func29, Tryz.ntmps29
    go_wp2
    go_ret3
    exact ⟨rfl, rfl⟩
  have b16 : (op == 16) = false := beq_eq_false_iff_ne.2 h16
  by_cases h19 : op = 19
  · subst h19
    go_enter Tryz.func29, Tryz.ntmps29
    go_wp2
    go_ret3
    exact ⟨rfl, rfl⟩
  have b19 : (op == 19) = false := beq_eq_false_iff_ne.2 h19
  by_cases h20 : op = 20
  · subst h20
    go_enter Tryz.func29, Tryz.ntmps29
    go_wp2
    go_ret3
    exact ⟨rfl, rfl⟩
  have b20 : (op == 20) = false := beq_eq_false_iff_ne.2 h20
  by_cases h21 : op = 21
  · subst h21
    go_enter Tryz.func29, Tryz.ntmps29
    go_wp2
    go_ret3
    exact ⟨rfl, rfl⟩
  have b21 : (op == 21) = false := beq_eq_false_iff_ne.2 h21
  by_cases h22 : op = 22
  · subst h22
    go_enter Tryz.func29, Tryz.ntmps29
    go_wp2
    go_ret3
    exact ⟨rfl, rfl⟩
  have b22 : (op == 22) = false := beq_eq_false_iff_ne.2 h22
  by_cases h23 : op = 23
  · subst h23
    go_enter Tryz.func29, Tryz.ntmps29
    go_wp2
    go_ret3
    exact ⟨rfl, rfl⟩
  have b23 : (op == 23) = false := beq_eq_false_iff_ne.2 h23
  have hh : Pg.hasP op = (0, false, false) := by unfold Pg.hasP; rw [if_neg (by omega), if_neg (by omega), if_neg (by omega), if_neg (by omega), if_neg (by omega), if_neg (by omega)]
  rw [hh]
  go_enter Tryz.func29, Tryz.ntmps29
  go_wp2
  go_ret3
  exact ⟨rfl, rfl⟩
end Go.Proofs.YtjkkjijlblfgaaaGreatDoor
end

section
namespace Go.Proofs.YtjkkjijlblfgaaaGreatDoor
open Go.RowKit Go.Shelf

set_option maxHeartbeats 400000 in
theorem rcanonP_any (a : Nat) (h : a < 18446744073709551616) (w : World) : Calls Tryz.prog 72 #[.int .u64 (a : Int)] w fun e w' => e = .returned (.int .u64 (Gn.canonW a : Int)) ∧ w' = w := by
  unfold Gn.canonW
  have HN := hide (rnan_any a h)
  by_cases hn : clsN a = 0
  · rw [if_pos ((cls_nan a).1 hn)]
    rw [decide_eq_true hn] at HN
    clear hn
    go_enter Tryz.func72, Tryz.ntmps72
    go_wp2_with (go_at_call 98; refine (HN.out _).mono ?_; rintro e w' ⟨rfl, rfl⟩)
    go_ret
    exact ⟨rfl, rfl⟩
  · rw [if_neg (fun k => hn ((cls_nan a).2 k))]
    rw [decide_eq_false hn] at HN
    clear hn
    go_enter Tryz.func72, Tryz.ntmps72
    go_wp2_with (go_at_call 98; refine (HN.out _).mono ?_; rintro e w' ⟨rfl, rfl⟩)
    go_ret
    exact ⟨rfl, rfl⟩
namespace Pg
def regE (r i : Nat) (v : Int) : Int := if r ≤ i then (if v ≠ 0 then 54 else 0) else if v < 0 ∨ 7 < v then 52 else 0
def nE (nb : Bool) (n : Int) (many : Nat) : Int := if nb then (if n < 0 ∨ (many : Int) < n then 53 else 0) else if n ≠ 0 then 54 else 0
def kE (kb : Bool) (k : Nat) : Int := if kb then (if Gn.canonW k ≠ k then 54 else 0) else if k ≠ 0 then 54 else 0
def abc (x : In) (i : Nat) : Int := if i = 0 then x.a else if i = 1 then x.b else x.c
def regsE (r : Nat) (x : In) : List Nat → Int
  | [] => 0
  | i :: t => if regE r i (abc x i) ≠ 0 then regE r i (abc x i) else regsE r x t
def wrongP (h : Nat × Bool × Bool) (x : In) (many : Nat) : Int := if regsE h.1 x [0, 1, 2] ≠ 0 then regsE h.1 x [0, 1, 2] else if nE h.2.1 x.n many ≠ 0 then nE h.2.1 x.n many else kE h.2.2 x.k
end Pg
theorem regs_step (r : Nat) (x : In) : ∀ i, i < 3 → Pg.regsE r x (([0, 1, 2] : List Nat).drop i) = if Pg.regE r i (Pg.abc x i) ≠ 0 then Pg.regE r i (Pg.abc x i) else Pg.regsE r x (([0, 1, 2] : List Nat).drop (i + 1))
  | 0, _ => rfl
  | 1, _ => rfl
  | 2, _ => rfl
  | i + 3, h => by omega
set_option maxRecDepth 20000 in
set_option maxHeartbeats 2000000 in
theorem wrong_any (x : In) (hx : x.k < 18446744073709551616) (many : Nat) (w : World) :
    Calls Tryz.prog 41 #[.agg #[.int .i64 x.op, .int .i64 x.a, .int .i64 x.b, .int .i64 x.c, .int .i64 x.n, .int .u64 (x.k : Int)], .int .i64 (many : Int)] w fun e w' => e = .returned (.int .i64 (if (Pg.wordP x.op).toList = [] then 51 else Pg.wrongP (Pg.hasP x.op) x many)) ∧ Below w.heap.size w w' := by
  obtain ⟨R, hR⟩ : ∃ R, (if (Pg.wordP x.op).toList = [] then 51 else Pg.wrongP (Pg.hasP x.op) x many) = R := ⟨_, rfl⟩
  rw [hR]
  have HW := hide (word_any x.op)
  have HH := hide (has_any x.op)
  generalize Pg.wordP x.op = wd at *
  generalize Pg.hasP x.op = hp at *
  obtain ⟨r, nb, kb⟩ := hp
  by_cases hwd : wd.toList = []
  · rw [if_pos hwd] at hR
    have hwb : (wd.toList == []) = true := by rw [hwd]; rfl
    have HR := hide hR
    clear hR hwd
    go_enter Tryz.func41, Tryz.ntmps41
    go_wp2_with fail
    refine (HW.out _).mono ?_
    rintro e w1 ⟨rfl, hb1⟩
    have HB1 : Hid (Below w.heap.size w w1) := (below_one w _).trans (hb1.mono (by simp))
    clear hb1
    go_wp2
    go_ret
    exact ⟨by rw [← HR.out]; rfl, HB1.out⟩
  rw [if_neg hwd] at hR
  have hwb : (wd.toList == []) = false := beq_eq_false_iff_ne.2 hwd
  have HR := hide hR
  clear hR hwd
  go_enter Tryz.func41, Tryz.ntmps41
  go_wp2_with fail
  refine (HW.out _).mono ?_
  rintro e w1 ⟨rfl, hb1⟩
  have HB1 : Hid (Below w.heap.size w w1) := (below_one w _).trans (hb1.mono (by simp))
  have hI1 : Ib w1 w.heap.size x := (hb1.block w.heap.size (by simp)).trans (heap_alloc_new w _)
  have HI1 := hide hI1
  obtain ⟨⟨x0, x1, x2, x3, x4, x5⟩, xz⟩ := six_of hI1
  have hl1 := hI1.lt
  clear hb1 hI1 HW
  go_wp2_with fail
  refine (HH.out w1).mono ?_
  rintro e w1' ⟨rfl, hw1⟩
  obtain rfl : w1 = w1' := hw1.symm
  clear hw1 HH
  have HIl := hide (HI1.out.grown (grown_one w1 (.cells #[.int .i64 x.a, .int .i64 x.b, .int .i64 x.c] 62) none) (by simp))
  have HLl : Hid ((w1.alloc (.cells #[.int .i64 x.a, .int .i64 x.b, .int .i64 x.c] 62)).heap[w1.heap.size]? = some (.cells #[.int .i64 x.a, .int .i64 x.b, .int .i64 x.c] 62 (0, 0))) := heap_alloc_new w1 _
  have HBl := hide (HB1.out.alloc HB1.out.size (.cells #[.int .i64 x.a, .int .i64 x.b, .int .i64 x.c] 62))
  clear HI1 HB1
  go_wp2_with fail
  generalize w1.alloc (.cells #[.int .i64 x.a, .int .i64 x.b, .int .i64 x.c] 62) = W0 at *
  clear x0 x1 x2 x3 x4 x5 xz
  go_loopw [9] (fun s wr => ∃ i : Nat, i ≤ 3 ∧ s = .int .i64 (i : Int) ∧ wr = W0 ∧ Hid (Pg.regsE r x [0, 1, 2] = Pg.regsE r x (([0, 1, 2] : List Nat).drop i))) (fun s _ => 3 - (intOf s).toNat)
  case atStart => exact ⟨0, by omega, rfl, rfl, rfl⟩
  case round =>
    obtain ⟨i, hi, rfl, rfl, HE⟩ := hrel
    by_cases hlt : i < 3
    · have hli : (i : Int) < 3 := by omega
      have hc : wr.cell? ⟨w1.heap.size, i, none⟩ = some (.int .i64 (Pg.abc x i)) := by
        obtain ⟨⟨c0, c1, c2⟩, _⟩ := three_of HLl.out
        match i, hlt with
        | 0, _ => exact c0
        | 1, _ => exact c1
        | 2, _ => exact c2
      have HE2 := hide (HE.out.trans (regs_step r x i hlt))
      unfold Pg.regE at HE2
      generalize Pg.abc x i = a at *
      by_cases hr : r ≤ i
      · rw [if_pos hr] at HE2
        have hri : (r : Int) ≤ (i : Int) := by omega
        have hri2 : ¬ (i : Int) < (r : Int) := by omega
        by_cases ha : a = 0
        · subst ha
          go_wp2
          go_roundw
          case rel => exact ⟨i + 1, by omega, by go_num, by first | rfl | trivial, by have := HE2.out; rw [if_neg (by simp)] at this; exact this⟩
          case measure => simp [intOf]; omega
        · have hab : (a != 0) = true := by simp [ha]
          go_wp2
          go_ret
          refine ⟨?_, HBl.out⟩
          have h1 := HE2.out
          rw [if_pos ha, if_pos (by decide)] at h1
          rw [← HR.out]
          unfold Pg.wrongP
          rw [h1]
          rfl
      · rw [if_neg hr] at HE2
        have hri : ¬ (r : Int) ≤ (i : Int) := by omega
        have hri2 : (i : Int) < (r : Int) := by omega
        have fin : (a < 0 ∨ 7 < a) → R = 52 := fun hb => by
          have h1 := HE2.out
          rw [if_pos hb, if_pos (by decide)] at h1
          rw [← HR.out]
          unfold Pg.wrongP
          rw [h1]
          rfl
        have HF := hide fin
        have HG : Hid (¬ (a < 0 ∨ 7 < a) → Hid (Pg.regsE r x [0, 1, 2] = Pg.regsE r x (([0, 1, 2] : List Nat).drop (i + 1)))) := fun hn => by
          have h1 := HE2.out
          rw [if_neg hn, if_neg (by simp)] at h1
          exact h1
        clear fin
        by_cases ha : a < 0
        · go_wp2
          go_ret
          exact ⟨by rw [HF.out (.inl ha)]; rfl, HBl.out⟩
        · by_cases ha7 : 7 < a
          · go_wp2
            go_ret
            exact ⟨by rw [HF.out (.inr ha7)]; rfl, HBl.out⟩
          · go_wp2
            go_roundw
            case rel => exact ⟨i + 1, by omega, by go_num, by first | rfl | trivial, HG.out (by omega)⟩
            case measure => simp [intOf]; omega
    · obtain rfl : i = 3 := by omega
      have h0 : Pg.regsE r x [0, 1, 2] = 0 := HE.out
      have hR2 := HR.out
      unfold Pg.wrongP at hR2
      rw [h0, if_neg (by simp)] at hR2
      have HR2 := hide hR2
      obtain ⟨⟨x0, x1, x2, x3, x4, x5⟩, xz⟩ := six_of HIl.out
      have HCn := hide (rcanonP_any x.k hx)
      clear h0 hR2 HE HR
      cases nb with
      | false =>
        by_cases hn0 : x.n = 0
        · have hR3 : Pg.kE kb x.k = R := by
            have e : Pg.nE false x.n many = 0 := by (unfold Pg.nE; simp [hn0])
            have h := HR2.out; rw [show Pg.nE (r, false, kb).2.1 x.n many = 0 from e, if_neg (by simp)] at h; exact h
          have hnb : (x.n != 0) = false := by rw [hn0]; rfl
          generalize x.n = nn at *
          clear HR2 hn0
          cases kb with
          | false =>
            by_cases hk0 : x.k = 0
            · have HR3 : Hid (0 = R) := by have h := hR3; unfold Pg.kE at h; rw [if_neg (by simp), if_neg (by simp [hk0])] at h; exact h
              have hkb : ((x.k : Int) != 0) = false := by rw [hk0]; rfl
              generalize x.k = kk at *
              clear hR3 hk0
              go_wp2_with fail
              go_quiet ((go_at_call 72; exact Calls.quiet_of_same (HCn.out _)))
              go_wp2
              go_ret
              exact ⟨by rw [← HR3.out]; rfl, by first | exact HBl.out | exact ⟨HBl.out.os, HBl.out.tape, HBl.out.output, HBl.out.size, HBl.out.block⟩⟩
            · have HR3 : Hid (54 = R) := by have h := hR3; unfold Pg.kE at h; rw [if_neg (by simp), if_pos hk0] at h; exact h
              have hkb : ((x.k : Int) != 0) = true := by rw [bne_iff_ne]; omega
              generalize x.k = kk at *
              clear hR3 hk0
              go_wp2_with fail
              go_quiet ((go_at_call 72; exact Calls.quiet_of_same (HCn.out _)))
              go_wp2
              go_ret
              exact ⟨by rw [← HR3.out]; rfl, by first | exact HBl.out | exact ⟨HBl.out.os, HBl.out.tape, HBl.out.output, HBl.out.size, HBl.out.block⟩⟩
          | true =>
            by_cases hk0 : Gn.canonW x.k = x.k
            · have HR3 : Hid (0 = R) := by have h := hR3; unfold Pg.kE at h; rw [if_pos rfl, if_neg (by simp [hk0])] at h; exact h
              have hkb : ((Gn.canonW x.k : Int) != (x.k : Int)) = false := by rw [hk0]; simp
              generalize Gn.canonW x.k = ck at *
              generalize x.k = kk at *
              clear hR3 hk0
              go_wp2_with fail
              go_quiet ((go_at_call 72; exact Calls.quiet_of_same (HCn.out _)))
              go_wp2
              go_ret
              exact ⟨by rw [← HR3.out]; rfl, by first | exact HBl.out | exact ⟨HBl.out.os, HBl.out.tape, HBl.out.output, HBl.out.size, HBl.out.block⟩⟩
            · have HR3 : Hid (54 = R) := by have h := hR3; unfold Pg.kE at h; rw [if_pos rfl, if_pos hk0] at h; exact h
              have hkb : ((Gn.canonW x.k : Int) != (x.k : Int)) = true := by rw [bne_iff_ne]; omega
              generalize Gn.canonW x.k = ck at *
              generalize x.k = kk at *
              clear hR3 hk0
              go_wp2_with fail
              go_quiet ((go_at_call 72; exact Calls.quiet_of_same (HCn.out _)))
              go_wp2
              go_ret
              exact ⟨by rw [← HR3.out]; rfl, by first | exact HBl.out | exact ⟨HBl.out.os, HBl.out.tape, HBl.out.output, HBl.out.size, HBl.out.block⟩⟩
        · have HR3 : Hid (54 = R) := by
            have e : Pg.nE false x.n many = 54 := by (unfold Pg.nE; simp [hn0])
            have h := HR2.out; rw [show Pg.nE (r, false, kb).2.1 x.n many = 54 from e, if_pos (by decide)] at h; exact h
          have hnb : (x.n != 0) = true := by rw [bne_iff_ne]; exact hn0
          generalize x.n = nn at *
          clear HR2 hn0
          go_wp2
          go_ret
          exact ⟨by rw [← HR3.out]; rfl, HBl.out⟩
      | true =>
        by_cases hn1 : x.n < 0
        · have HR3 : Hid (53 = R) := by
            have e : Pg.nE true x.n many = 53 := by (unfold Pg.nE; rw [if_pos rfl, if_pos (Or.inl hn1)])
            have h := HR2.out; rw [show Pg.nE (r, true, kb).2.1 x.n many = 53 from e, if_pos (by decide)] at h; exact h
          generalize x.n = nn at *
          clear HR2
          go_wp2
          go_ret
          exact ⟨by rw [← HR3.out]; rfl, HBl.out⟩
        · by_cases hn2 : (many : Int) < x.n
          · have HR3 : Hid (53 = R) := by
              have e : Pg.nE true x.n many = 53 := by (unfold Pg.nE; rw [if_pos rfl, if_pos (Or.inr hn2)])
              have h := HR2.out; rw [show Pg.nE (r, true, kb).2.1 x.n many = 53 from e, if_pos (by decide)] at h; exact h
            generalize x.n = nn at *
            clear HR2
            go_wp2
            go_ret
            exact ⟨by rw [← HR3.out]; rfl, HBl.out⟩
          · have hR3 : Pg.kE kb x.k = R := by
              have e : Pg.nE true x.n many = 0 := by (unfold Pg.nE; rw [if_pos rfl, if_neg (by omega)])
              have h := HR2.out; rw [show Pg.nE (r, true, kb).2.1 x.n many = 0 from e, if_neg (by simp)] at h; exact h
            generalize x.n = nn at *
            clear HR2
            cases kb with
            | false =>
              by_cases hk0 : x.k = 0
              · have HR3 : Hid (0 = R) := by have h := hR3; unfold Pg.kE at h; rw [if_neg (by simp), if_neg (by simp [hk0])] at h; exact h
                have hkb : ((x.k : Int) != 0) = false := by rw [hk0]; rfl
                generalize x.k = kk at *
                clear hR3 hk0
                go_wp2_with fail
                go_quiet ((go_at_call 72; exact Calls.quiet_of_same (HCn.out _)))
                go_wp2
                go_ret
                exact ⟨by rw [← HR3.out]; rfl, by first | exact HBl.out | exact ⟨HBl.out.os, HBl.out.tape, HBl.out.output, HBl.out.size, HBl.out.block⟩⟩
              · have HR3 : Hid (54 = R) := by have h := hR3; unfold Pg.kE at h; rw [if_neg (by simp), if_pos hk0] at h; exact h
                have hkb : ((x.k : Int) != 0) = true := by rw [bne_iff_ne]; omega
                generalize x.k = kk at *
                clear hR3 hk0
                go_wp2_with fail
                go_quiet ((go_at_call 72; exact Calls.quiet_of_same (HCn.out _)))
                go_wp2
                go_ret
                exact ⟨by rw [← HR3.out]; rfl, by first | exact HBl.out | exact ⟨HBl.out.os, HBl.out.tape, HBl.out.output, HBl.out.size, HBl.out.block⟩⟩
            | true =>
              by_cases hk0 : Gn.canonW x.k = x.k
              · have HR3 : Hid (0 = R) := by have h := hR3; unfold Pg.kE at h; rw [if_pos rfl, if_neg (by simp [hk0])] at h; exact h
                have hkb : ((Gn.canonW x.k : Int) != (x.k : Int)) = false := by rw [hk0]; simp
                generalize Gn.canonW x.k = ck at *
                generalize x.k = kk at *
                clear hR3 hk0
                go_wp2_with fail
                go_quiet ((go_at_call 72; exact Calls.quiet_of_same (HCn.out _)))
                go_wp2
                go_ret
                exact ⟨by rw [← HR3.out]; rfl, by first | exact HBl.out | exact ⟨HBl.out.os, HBl.out.tape, HBl.out.output, HBl.out.size, HBl.out.block⟩⟩
              · have HR3 : Hid (54 = R) := by have h := hR3; unfold Pg.kE at h; rw [if_pos rfl, if_pos hk0] at h; exact h
                have hkb : ((Gn.canonW x.k : Int) != (x.k : Int)) = true := by rw [bne_iff_ne]; omega
                generalize Gn.canonW x.k = ck at *
                generalize x.k = kk at *
                clear hR3 hk0
                go_wp2_with fail
                go_quiet ((go_at_call 72; exact Calls.quiet_of_same (HCn.out _)))
                go_wp2
                go_ret
                exact ⟨by rw [← HR3.out]; rfl, by first | exact HBl.out | exact ⟨HBl.out.os, HBl.out.tape, HBl.out.output, HBl.out.size, HBl.out.block⟩⟩
end Go.Proofs.YtjkkjijlblfgaaaGreatDoor
end
