import Derived.Test.YtnbmgddkaclneaaNtG
namespace Go.Proofs.Ytnbmgddkaclneaa
open Go.RowKit

/-- a slice of strings, as the walk reads it -/
structure Strs (w : World) (ad : Option Addr) (len ab ao : Nat) (S : Nat → ByteArray) : Prop where
  some : 0 < len → ad = Option.some ⟨ab, ao, none⟩
  old : 0 < len → ab < w.heap.size
  c : ∀ i, i < len → w.cell? ⟨ab, ao + i, none⟩ = Option.some (.string (S i))

/-- the test ahead of '==' -/
theorem guardD (op : BinOp) (x y : Operand) (xs ys : Array Value) (w : World) : (eqGuard op 46 x y (.agg xs) (.agg ys)).run Try.prog w = .ok () w := run_eqGuard_agg w op _ x y xs ys (by kernel_rfl)
theorem eqD_self (d : Dg) (w : World) : (Op.equalIn 10000 46 d.val d.val).run Try.prog w = .ok true w := by
  have u3 := Try.underlying3
  have a3 := Try.isAgg3
  have z3 := Try.sizeOf3
  have u9 := Try.underlying9
  have a9 := Try.isAgg9
  have z9 := Try.sizeOf9
  have u33 := Try.underlying33
  have a33 := Try.isAgg33
  have z33 := Try.sizeOf33
  have hS : Try.prog.underlying 46 = some (.struct (Try.prog.fieldsOf 46)) := by kernel_rfl
  have hp : Try.prog.stoodInHeld 46 = false := by kernel_rfl
  have hS2 : Try.prog.underlying 33 = some (.struct (Try.prog.fieldsOf 33)) := by kernel_rfl
  have hp2 : Try.prog.stoodInHeld 33 = false := by kernel_rfl
  rw [show (10000 : Nat) = 9999 + 1 from rfl, run_equalIn_agg w 9999 46 _ _ hS hp]
  simp only [Program.fieldsOf, Try.underlying46]
  go_simp
theorem neqD_self (d : Dg) (w : World) : (binOp .neq 46 d.val d.val).run Try.prog w = .ok (.bool false) w := by
  rw [run_neq_struct, eqD_self]
  rfl
theorem eqlD_self (d : Dg) (w : World) : (binOp .eql 46 d.val d.val).run Try.prog w = .ok (.bool true) w := by
  rw [run_eql_struct, eqD_self]
  rfl

/-- what NetLines has sent -/
def lnD (S : Nat → ByteArray) (j : Nat) : Dg := ⟨(j : Int) + 1, 2, j, 0, -(j : Int), S j⟩
def lnL (S : Nat → ByteArray) (i : Nat) : List Dg := (List.range i).map (lnD S)
theorem lnL_len (S : Nat → ByteArray) (i : Nat) : (lnL S i).length = i := by simp [lnL]
theorem lnL_succ (S : Nat → ByteArray) (i : Nat) : lnL S (i + 1) = lnL S i ++ [lnD S i] := by simp [lnL, List.range_succ]
theorem lnL_get (S : Nat → ByteArray) (i j : Nat) (h : j < (lnL S i).length) : (lnL S i)[j] = lnD S j := by simp [lnL]

theorem head_drop (X : List Dg) (k : Nat) (h : k < X.length) : atE (X.drop k) 0 = 0 ∧ atD (X.drop k) 0 = X[k] ∧ takeL (X.drop k) 0 = X.drop (k + 1) := by
  have hl : 0 < (X.drop k).length := by rw [List.length_drop]; omega
  have hc : (0 : Int) ≤ 0 ∧ (0 : Int) < ((X.drop k).length : Int) := ⟨Int.le_refl _, by omega⟩
  refine ⟨by unfold atE; rw [if_pos hc], ?_, ?_⟩
  · unfold atD; rw [if_pos hc, List.drop_eq_getElem_cons h]; rfl
  · unfold takeL; rw [if_pos hc, List.drop_eq_getElem_cons h]; rfl

set_option maxHeartbeats 2000000 in
set_option maxRecDepth 8000 in
theorem netLines_walk (ad : Option Addr) (ab ao len cap : Nat) (S : Nat → ByteArray) (t : Int) (w : World) (hO : Strs w ad len ab ao S) (hlen : len ≤ 1048576) :
    Calls Try.prog 6 #[.slice ad len cap, .int .i64 t] w fun e w' => e = .returned (.bool true) ∧ Below w.heap.size w w' := by
  go_enter Try.func6, Try.ntmps6
  go_wp2_with fail
  refine (new_any w).mono ?_
  rintro e w0 ⟨rfl, hw1⟩
  have HB0 : Hid (Bag 58 w.heap.size w0 w.heap.size (.slice none 0 0) [] 0) := by rw [hw1]; exact Bag.new _ _ _ (Nat.le_refl _)
  have HL0 : Hid (Below w.heap.size w w0) := by rw [hw1]; exact (Below.refl _ w).alloc (Nat.le_refl _) _
  clear hw1
  go_wp2_with fail
  refine (awake_true w0).mono ?_
  rintro e w1 ⟨rfl, hb1⟩
  have HB1 := hide (HB0.out.below hb1)
  have HL1 := hide (HL0.out.trans ((Mv.of_below (F := fun _ => False) hb1).below HL0.out.size (fun _ h => h.elim)))
  clear hb1 HB0 HL0
  go_wp2_with fail
  have HO := hide hO
  clear hO
  go_loopw [6] (fun u wr => ∃ (i : Nat) (v : Value), u = .int .i64 (i : Int) ∧ i ≤ len ∧ Hid (Bag 58 w.heap.size wr w.heap.size v (lnL S i) i) ∧ Hid (Below w.heap.size w wr)) (fun u _ => len - (intOf u).toNat)
  case atStart => exact ⟨0, _, rfl, Nat.zero_le _, HB1.out, HL1.out⟩
  case round =>
    obtain ⟨i, v, rfl, hil, HB, HL⟩ := hrel
    clear HB1 HL1
    by_cases hi : i < len
    · have hs' := HO.out.some (by omega)
      subst hs'
      have hc : wr.cell? ⟨ab, ao + i, none⟩ = some (.string (S i)) := (HL.out.cell (HO.out.old (by omega))).trans (HO.out.c i hi)
      have hi3 : (i : Int) < (len : Int) := by omega
      go_wp2_with fail
      refine (send_any HB.out 2 i 0 (-(i : Int)) (S i) (by omega) (by omega) (by rw [lnL_len]; omega)).mono ?_
      rintro e w2 ⟨rfl, v2, hB2, hM2⟩
      have HB2 : Hid (Bag 58 w.heap.size w2 w.heap.size v2 (lnL S (i + 1)) ((i + 1 : Nat) : Int)) := by rw [lnL_succ]; exact hB2
      have HL2 := hide (HL.out.trans (hM2.below HL.out.size HB.out.ftlow))
      clear hB2 hM2 HB HL
      go_wp2
      exact ⟨⟨i + 1, v2, by go_num, by omega, HB2, HL2⟩, by simp [intOf]; omega⟩
    · obtain rfl : i = len := by omega
      have b0 : decide ((i : Int) < (i : Int)) = false := by simp
      clear hi
      go_wp2_with fail
      refine (dup_any (p := t) HB.out (by omega) (by omega) (by rw [lnL_len]; omega)).mono ?_
      rintro e w2 ⟨rfl, v2, hB2, hM2⟩
      have HL2 := hide (HL.out.trans (hM2.below HL.out.size HB.out.ftlow))
      clear HL
      by_cases ht : 0 ≤ t ∧ t < (i : Int)
      · have e1 : atE (lnL S i) t = 0 := by unfold atE; rw [lnL_len, if_pos ht]
        obtain ⟨n, rfl⟩ : ∃ n : Nat, t = (n : Int) := ⟨t.toNat, by omega⟩
        have hn : n < i := by omega
        have e2 : atD (lnL S i) (n : Int) = lnD S n := by unfold atD; rw [lnL_len, if_pos ht, Int.toNat_natCast, List.getD_eq_getElem?_getD, List.getElem?_eq_getElem (by rw [lnL_len]; exact hn), lnL_get]; rfl
        simp only [e1, e2, if_pos] at hB2 ⊢
        have HB2 := hide hB2
        have b1 : decide ((0 : Int) ≤ (n : Int)) = true := by simp
        have b2 : decide ((n : Int) < (i : Int)) = true := by simp; omega
        clear hB2 hM2 HB e1 e2 ht
        go_wp2_with fail
        go_loopw [10] (fun u wr => ∃ (k : Nat) (v : Value), u = .int .i64 (k : Int) ∧ k ≤ i ∧ Hid (Bag 58 w.heap.size wr w.heap.size v ((lnL S i ++ [{ lnD S n with num := (i : Int) + 1 }]).drop k) ((i : Int) + 1)) ∧ Hid (Below w.heap.size w wr)) (fun u _ => i - (intOf u).toNat)
        case atStart => exact ⟨0, _, rfl, Nat.zero_le _, HB2, HL2⟩
        case round =>
          obtain ⟨k, v, rfl, hki, HB, HL⟩ := hrel
          clear HB2 HL2
          have hXl : (lnL S i ++ [{ lnD S n with num := (i : Int) + 1 }]).length = i + 1 := by simp [lnL_len]
          by_cases hk : k < i
          · have hkl : k < (lnL S i ++ [{ lnD S n with num := (i : Int) + 1 }]).length := by omega
            obtain ⟨t1, t2, t3⟩ := head_drop (lnL S i ++ [{ lnD S n with num := (i : Int) + 1 }]) k hkl
            have t4 : (lnL S i ++ [{ lnD S n with num := (i : Int) + 1 }])[k] = lnD S k := by first | (rw [List.getElem_append_left (by rw [lnL_len]; exact hk)]; exact lnL_get S i k _) | exact lnL_get S i k _
            have hs' := HO.out.some (by omega)
            subst hs'
            go_wp2_with fail
            refine (take_any (p := 0) HB.out).mono ?_
            rintro e w3 ⟨rfl, v3, hB3, hM3⟩
            rw [t3] at hB3
            rw [t1, t2, t4]
            have HB3 := hide hB3
            have HL3 := hide (HL.out.trans (hM3.below HL.out.size HB.out.ftlow))
            clear hB3 hM3 HB HL t1 t2 t3 t4 hkl hXl
            have hq : ∀ w, (binOp .neq 46 (.agg #[.int .i64 ((k : Int) + 1), .int .i64 2, .int .i64 (k : Int), .int .i64 0, .int .i64 (-(k : Int)), .string (S k)]) (.agg #[.int .i64 ((k : Int) + 1), .int .i64 2, .int .i64 (k : Int), .int .i64 0, .int .i64 (-(k : Int)), .string (S k)])).run Try.prog w = .ok (.bool false) w := neqD_self (lnD S k)
            have hgd : ∀ x y w, (eqGuard .neq 46 x y (.agg #[.int .i64 ((k : Int) + 1), .int .i64 2, .int .i64 (k : Int), .int .i64 0, .int .i64 (-(k : Int)), .string (S k)]) (.agg #[.int .i64 ((k : Int) + 1), .int .i64 2, .int .i64 (k : Int), .int .i64 0, .int .i64 (-(k : Int)), .string (S k)])).run Try.prog w = .ok () w := fun x y w => guardD _ _ _ _ _ w
            have hl3 : (lnD S k).num = (k : Int) + 1 ∧ (lnD S k).fn = 2 ∧ (lnD S k).fl = (k : Int) ∧ (lnD S k).tn = 0 ∧ (lnD S k).tl = -(k : Int) ∧ (lnD S k).data = S k := ⟨rfl, rfl, rfl, rfl, rfl, rfl⟩
            obtain ⟨l0, l1, l2, l3, l4, l5⟩ := hl3
            go_wp2_with fail
            have hN := heap_alloc_new w3 (.cells #[.int .i64 ((k : Int) + 1), .int .i64 2, .int .i64 (k : Int), .int .i64 0, .int .i64 (-(k : Int)), .string (S k)] 46)
            have hdc : (w3.alloc (.cells #[.int .i64 ((k : Int) + 1), .int .i64 2, .int .i64 (k : Int), .int .i64 0, .int .i64 (-(k : Int)), .string (S k)] 46)).cell? ⟨ab, ao + k, none⟩ = some (.string (S k)) := Lib.cell?_alloc_some _ ((HL3.out.cell (HO.out.old (by omega))).trans (HO.out.c k hk))
            have HB4 := hide (HB3.out.alloc (.cells #[.int .i64 ((k : Int) + 1), .int .i64 2, .int .i64 (k : Int), .int .i64 0, .int .i64 (-(k : Int)), .string (S k)] 46))
            have HL4 := hide (HL3.out.alloc HL3.out.size (.cells #[.int .i64 ((k : Int) + 1), .int .i64 2, .int .i64 (k : Int), .int .i64 0, .int .i64 (-(k : Int)), .string (S k)] 46))
            generalize w3.alloc (.cells #[.int .i64 ((k : Int) + 1), .int .i64 2, .int .i64 (k : Int), .int .i64 0, .int .i64 (-(k : Int)), .string (S k)] 46) = W4 at *
            obtain ⟨⟨p0, p1, p2, p3, p4, p5⟩, pz⟩ := six_of hN
            clear hN HB3 HL3 pz l0 l1 l2 l3 l4 l5
            go_quiet (fail)
            go_wp2
            exact ⟨⟨k + 1, v3, by go_num, by omega, HB4.out.keep (fun _ _ => rfl), ⟨HL4.out.os, HL4.out.tape, HL4.out.output, HL4.out.size, HL4.out.block⟩⟩, by simp [intOf]; omega⟩
          · obtain rfl : k = i := by omega
            have b5 : decide ((k : Int) < (k : Int)) = false := by simp
            clear hk
            obtain ⟨t1, t2, t3⟩ := head_drop (lnL S k ++ [{ lnD S n with num := (k : Int) + 1 }]) k (by omega)
            have t4 : (lnL S k ++ [{ lnD S n with num := (k : Int) + 1 }])[k]'(by omega) = { lnD S n with num := (k : Int) + 1 } := by rw [List.getElem_append_right (by rw [lnL_len]; exact Nat.le_refl _)]; simp [lnL_len]
            have t5 : (lnL S k ++ [{ lnD S n with num := (k : Int) + 1 }]).drop (k + 1) = [] := List.drop_eq_nil_of_le (by omega)
            have hs' := HO.out.some (by omega)
            subst hs'
            go_wp2_with fail
            refine (take_any (p := 0) HB.out).mono ?_
            rintro e w3 ⟨rfl, v3, hB3, hM3⟩
            rw [t3, t5] at hB3
            rw [t1, t2, t4]
            have HB3 := hide hB3
            have HL3 := hide (HL.out.trans (hM3.below HL.out.size HB.out.ftlow))
            clear hB3 hM3 HB HL t1 t2 t3 t4 t5 hXl
            have hl3 : (lnD S n).fn = 2 ∧ (lnD S n).fl = (n : Int) ∧ (lnD S n).tn = 0 ∧ (lnD S n).tl = -(n : Int) ∧ (lnD S n).data = S n := ⟨rfl, rfl, rfl, rfl, rfl⟩
            obtain ⟨l1, l2, l3, l4, l5⟩ := hl3
            go_wp2_with fail
            have hN := heap_alloc_new w3 (.cells #[.int .i64 ((k : Int) + 1), .int .i64 2, .int .i64 (n : Int), .int .i64 0, .int .i64 (-(n : Int)), .string (S n)] 46)
            have hdc : (w3.alloc (.cells #[.int .i64 ((k : Int) + 1), .int .i64 2, .int .i64 (n : Int), .int .i64 0, .int .i64 (-(n : Int)), .string (S n)] 46)).cell? ⟨ab, ao + n, none⟩ = some (.string (S n)) := Lib.cell?_alloc_some _ ((HL3.out.cell (HO.out.old (by omega))).trans (HO.out.c n hn))
            have HB4 := hide (HB3.out.alloc (.cells #[.int .i64 ((k : Int) + 1), .int .i64 2, .int .i64 (n : Int), .int .i64 0, .int .i64 (-(n : Int)), .string (S n)] 46))
            have HL4 := hide (HL3.out.alloc HL3.out.size (.cells #[.int .i64 ((k : Int) + 1), .int .i64 2, .int .i64 (n : Int), .int .i64 0, .int .i64 (-(n : Int)), .string (S n)] 46))
            generalize w3.alloc (.cells #[.int .i64 ((k : Int) + 1), .int .i64 2, .int .i64 (n : Int), .int .i64 0, .int .i64 (-(n : Int)), .string (S n)] 46) = W4 at *
            obtain ⟨⟨p0, p1, p2, p3, p4, p5⟩, pz⟩ := six_of hN
            clear hN HB3 HL3 pz l1 l2 l3 l4 l5
            go_quiet (fail)
            go_wp2_with (go_at_call 18; refine (len_any (HB4.out.keep (w' := W4.drewN _) (fun _ _ => rfl))).mono ?_; rintro e w6 ⟨rfl, rfl⟩)
            go_ret
            exact ⟨rfl, ⟨HL4.out.os, HL4.out.tape, HL4.out.output, HL4.out.size, HL4.out.block⟩⟩
      · have e1 : atE (lnL S i) t = 30 := by unfold atE; rw [lnL_len, if_neg ht]
        simp only [e1] at hB2 ⊢
        rw [if_neg (by decide)] at hB2
        rw [if_neg (by decide)] at hB2
        have HB2 := hide hB2
        have b1 : (decide ((0 : Int) ≤ t) && decide (t < (i : Int))) = false := by simp; omega
        rw [if_neg (by decide)]
        have b6 : ((0 : Int) == (i : Int) + 1) = false := by rw [beq_eq_false_iff_ne]; omega
        clear hB2 hM2 HB e1
        by_cases ht0 : 0 ≤ t
        · have b3 : decide ((0 : Int) ≤ t) = true := by simp; exact ht0
          have b4 : decide (t < (i : Int)) = false := by simp; omega
          clear ht b1
          go_wp2_with fail
          clear b3 b4 ht0
          go_loopw [10] (fun u wr => ∃ (k : Nat) (v : Value), u = .int .i64 (k : Int) ∧ k ≤ i ∧ Hid (Bag 58 w.heap.size wr w.heap.size v ((lnL S i).drop k) ((i : Int))) ∧ Hid (Below w.heap.size w wr)) (fun u _ => i - (intOf u).toNat)
          case atStart => exact ⟨0, _, rfl, Nat.zero_le _, HB2, HL2⟩
          case round =>
            obtain ⟨k, v, rfl, hki, HB, HL⟩ := hrel
            clear HB2 HL2
            have hXl : (lnL S i).length = i := by simp [lnL_len]
            by_cases hk : k < i
            · have hkl : k < (lnL S i).length := by omega
              obtain ⟨t1, t2, t3⟩ := head_drop (lnL S i) k hkl
              have t4 : (lnL S i)[k] = lnD S k := by first | (rw [List.getElem_append_left (by rw [lnL_len]; exact hk)]; exact lnL_get S i k _) | exact lnL_get S i k _
              have hs' := HO.out.some (by omega)
              subst hs'
              go_wp2_with fail
              refine (take_any (p := 0) HB.out).mono ?_
              rintro e w3 ⟨rfl, v3, hB3, hM3⟩
              rw [t3] at hB3
              rw [t1, t2, t4]
              have HB3 := hide hB3
              have HL3 := hide (HL.out.trans (hM3.below HL.out.size HB.out.ftlow))
              clear hB3 hM3 HB HL t1 t2 t3 t4 hkl hXl
              have hq : ∀ w, (binOp .neq 46 (.agg #[.int .i64 ((k : Int) + 1), .int .i64 2, .int .i64 (k : Int), .int .i64 0, .int .i64 (-(k : Int)), .string (S k)]) (.agg #[.int .i64 ((k : Int) + 1), .int .i64 2, .int .i64 (k : Int), .int .i64 0, .int .i64 (-(k : Int)), .string (S k)])).run Try.prog w = .ok (.bool false) w := neqD_self (lnD S k)
              have hgd : ∀ x y w, (eqGuard .neq 46 x y (.agg #[.int .i64 ((k : Int) + 1), .int .i64 2, .int .i64 (k : Int), .int .i64 0, .int .i64 (-(k : Int)), .string (S k)]) (.agg #[.int .i64 ((k : Int) + 1), .int .i64 2, .int .i64 (k : Int), .int .i64 0, .int .i64 (-(k : Int)), .string (S k)])).run Try.prog w = .ok () w := fun x y w => guardD _ _ _ _ _ w
              have hl3 : (lnD S k).num = (k : Int) + 1 ∧ (lnD S k).fn = 2 ∧ (lnD S k).fl = (k : Int) ∧ (lnD S k).tn = 0 ∧ (lnD S k).tl = -(k : Int) ∧ (lnD S k).data = S k := ⟨rfl, rfl, rfl, rfl, rfl, rfl⟩
              obtain ⟨l0, l1, l2, l3, l4, l5⟩ := hl3
              go_wp2_with fail
              have hN := heap_alloc_new w3 (.cells #[.int .i64 ((k : Int) + 1), .int .i64 2, .int .i64 (k : Int), .int .i64 0, .int .i64 (-(k : Int)), .string (S k)] 46)
              have hdc : (w3.alloc (.cells #[.int .i64 ((k : Int) + 1), .int .i64 2, .int .i64 (k : Int), .int .i64 0, .int .i64 (-(k : Int)), .string (S k)] 46)).cell? ⟨ab, ao + k, none⟩ = some (.string (S k)) := Lib.cell?_alloc_some _ ((HL3.out.cell (HO.out.old (by omega))).trans (HO.out.c k hk))
              have HB4 := hide (HB3.out.alloc (.cells #[.int .i64 ((k : Int) + 1), .int .i64 2, .int .i64 (k : Int), .int .i64 0, .int .i64 (-(k : Int)), .string (S k)] 46))
              have HL4 := hide (HL3.out.alloc HL3.out.size (.cells #[.int .i64 ((k : Int) + 1), .int .i64 2, .int .i64 (k : Int), .int .i64 0, .int .i64 (-(k : Int)), .string (S k)] 46))
              generalize w3.alloc (.cells #[.int .i64 ((k : Int) + 1), .int .i64 2, .int .i64 (k : Int), .int .i64 0, .int .i64 (-(k : Int)), .string (S k)] 46) = W4 at *
              obtain ⟨⟨p0, p1, p2, p3, p4, p5⟩, pz⟩ := six_of hN
              clear hN HB3 HL3 pz l0 l1 l2 l3 l4 l5
              go_quiet (fail)
              go_wp2
              exact ⟨⟨k + 1, v3, by go_num, by omega, HB4.out.keep (fun _ _ => rfl), ⟨HL4.out.os, HL4.out.tape, HL4.out.output, HL4.out.size, HL4.out.block⟩⟩, by simp [intOf]; omega⟩
            · obtain rfl : k = i := by omega
              have b5 : decide ((k : Int) < (k : Int)) = false := by simp
              clear hk
              have t5 : (lnL S k).drop k = [] := List.drop_eq_nil_of_le (by omega)
              rw [t5] at HB
              go_wp2_with (go_at_call 18; refine (len_any HB.out).mono ?_; rintro e w6 ⟨rfl, rfl⟩)
              go_ret
              exact ⟨rfl, HL.out⟩
        · have b3 : decide ((0 : Int) ≤ t) = false := by simp; omega
          clear ht b1
          go_wp2_with fail
          go_loopw [10] (fun u wr => ∃ (k : Nat) (v : Value), u = .int .i64 (k : Int) ∧ k ≤ i ∧ Hid (Bag 58 w.heap.size wr w.heap.size v ((lnL S i).drop k) ((i : Int))) ∧ Hid (Below w.heap.size w wr)) (fun u _ => i - (intOf u).toNat)
          case atStart => exact ⟨0, _, rfl, Nat.zero_le _, HB2, HL2⟩
          case round =>
            obtain ⟨k, v, rfl, hki, HB, HL⟩ := hrel
            clear HB2 HL2
            have hXl : (lnL S i).length = i := by simp [lnL_len]
            by_cases hk : k < i
            · have hkl : k < (lnL S i).length := by omega
              obtain ⟨t1, t2, t3⟩ := head_drop (lnL S i) k hkl
              have t4 : (lnL S i)[k] = lnD S k := by first | (rw [List.getElem_append_left (by rw [lnL_len]; exact hk)]; exact lnL_get S i k _) | exact lnL_get S i k _
              have hs' := HO.out.some (by omega)
              subst hs'
              go_wp2_with fail
              refine (take_any (p := 0) HB.out).mono ?_
              rintro e w3 ⟨rfl, v3, hB3, hM3⟩
              rw [t3] at hB3
              rw [t1, t2, t4]
              have HB3 := hide hB3
              have HL3 := hide (HL.out.trans (hM3.below HL.out.size HB.out.ftlow))
              clear hB3 hM3 HB HL t1 t2 t3 t4 hkl hXl
              have hq : ∀ w, (binOp .neq 46 (.agg #[.int .i64 ((k : Int) + 1), .int .i64 2, .int .i64 (k : Int), .int .i64 0, .int .i64 (-(k : Int)), .string (S k)]) (.agg #[.int .i64 ((k : Int) + 1), .int .i64 2, .int .i64 (k : Int), .int .i64 0, .int .i64 (-(k : Int)), .string (S k)])).run Try.prog w = .ok (.bool false) w := neqD_self (lnD S k)
              have hgd : ∀ x y w, (eqGuard .neq 46 x y (.agg #[.int .i64 ((k : Int) + 1), .int .i64 2, .int .i64 (k : Int), .int .i64 0, .int .i64 (-(k : Int)), .string (S k)]) (.agg #[.int .i64 ((k : Int) + 1), .int .i64 2, .int .i64 (k : Int), .int .i64 0, .int .i64 (-(k : Int)), .string (S k)])).run Try.prog w = .ok () w := fun x y w => guardD _ _ _ _ _ w
              have hl3 : (lnD S k).num = (k : Int) + 1 ∧ (lnD S k).fn = 2 ∧ (lnD S k).fl = (k : Int) ∧ (lnD S k).tn = 0 ∧ (lnD S k).tl = -(k : Int) ∧ (lnD S k).data = S k := ⟨rfl, rfl, rfl, rfl, rfl, rfl⟩
              obtain ⟨l0, l1, l2, l3, l4, l5⟩ := hl3
              go_wp2_with fail
              have hN := heap_alloc_new w3 (.cells #[.int .i64 ((k : Int) + 1), .int .i64 2, .int .i64 (k : Int), .int .i64 0, .int .i64 (-(k : Int)), .string (S k)] 46)
              have hdc : (w3.alloc (.cells #[.int .i64 ((k : Int) + 1), .int .i64 2, .int .i64 (k : Int), .int .i64 0, .int .i64 (-(k : Int)), .string (S k)] 46)).cell? ⟨ab, ao + k, none⟩ = some (.string (S k)) := Lib.cell?_alloc_some _ ((HL3.out.cell (HO.out.old (by omega))).trans (HO.out.c k hk))
              have HB4 := hide (HB3.out.alloc (.cells #[.int .i64 ((k : Int) + 1), .int .i64 2, .int .i64 (k : Int), .int .i64 0, .int .i64 (-(k : Int)), .string (S k)] 46))
              have HL4 := hide (HL3.out.alloc HL3.out.size (.cells #[.int .i64 ((k : Int) + 1), .int .i64 2, .int .i64 (k : Int), .int .i64 0, .int .i64 (-(k : Int)), .string (S k)] 46))
              generalize w3.alloc (.cells #[.int .i64 ((k : Int) + 1), .int .i64 2, .int .i64 (k : Int), .int .i64 0, .int .i64 (-(k : Int)), .string (S k)] 46) = W4 at *
              obtain ⟨⟨p0, p1, p2, p3, p4, p5⟩, pz⟩ := six_of hN
              clear hN HB3 HL3 pz l0 l1 l2 l3 l4 l5
              go_quiet (fail)
              go_wp2
              exact ⟨⟨k + 1, v3, by go_num, by omega, HB4.out.keep (fun _ _ => rfl), ⟨HL4.out.os, HL4.out.tape, HL4.out.output, HL4.out.size, HL4.out.block⟩⟩, by simp [intOf]; omega⟩
            · obtain rfl : k = i := by omega
              have b5 : decide ((k : Int) < (k : Int)) = false := by simp
              clear hk
              have t5 : (lnL S k).drop k = [] := List.drop_eq_nil_of_le (by omega)
              rw [t5] at HB
              go_wp2_with (go_at_call 18; refine (len_any HB.out).mono ?_; rintro e w6 ⟨rfl, rfl⟩)
              go_ret
              exact ⟨rfl, HL.out⟩
end Go.Proofs.Ytnbmgddkaclneaa
