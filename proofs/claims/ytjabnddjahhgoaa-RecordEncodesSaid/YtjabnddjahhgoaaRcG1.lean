import Derived.Test.YtjabnddjahhgoaaPkP
import Derived.Test.YtjabnddjahhgoaaRcB
import Derived.Deep.RegionHeld3
namespace Go.Proofs.Ytjabnddjahhgoaa
open Go.RowKit

set_option maxHeartbeats 800000 in
set_option maxRecDepth 8000 in
theorem qnum_any (n : Nat) (hn : n < 18446744073709551616) (w : World) :
    Calls Try.prog 25 #[.int .u64 (n : Int)] w fun e w' => e = .returned (.string ⟨(Pk.enc n).toArray⟩) ∧ Below w.heap.size w w' := by
  obtain ⟨i0, hi, hz0, hz1, hz2⟩ := info_parts Try.infoB
  go_enter Try.func25, Try.ntmps25
  go_wp2
  go_loopw [0, 3] (fun u v wr => ∃ (m : Nat) (pre : List UInt8), u = .int .u64 (m : Int) ∧ m ≤ n ∧ Hid (Pk.enc n = pre ++ Pk.enc m) ∧ wr.ownsRow w.heap.size 5 1 v pre.length (bc pre) ∧ Below w.heap.size w wr) (fun u _ _ => (intOf u).toNat)
  case atStart => exact ⟨n, [], rfl, Nat.le_refl _, rfl, World.ownsRow_made w #[] 0 (Nat.le_refl _) (by decide) rfl, below_alloc _ _⟩
  case round =>
    obtain ⟨m, pre, rfl, hm, HE, hown, hbel⟩ := hrel
    have hlen := Pk.enc_ten hn
    rw [HE.out, List.length_append] at hlen
    have hpos := Pk.enc_pos m
    by_cases h128 : m < 128
    · have b0 : decide ((128 : Int) ≤ (m : Int)) = false := by simp; omega
      have HN : Hid (bc (Pk.enc n) = bc pre ++ [.int .u8 (m : Int)]) := (show bc (Pk.enc n) = _ by
        rw [HE.out, bc_append, Pk.enc_lt h128]; simp only [bc, List.map_cons, List.map_nil]; rw [Pk.toNat_ofNat (by omega)])
      have HM : Hid (pre.length + 1 = (Pk.enc n).length) := (show pre.length + 1 = _ by rw [HE.out, List.length_append, Pk.enc_lt h128]; rfl)
      go_wp2_with (first
        | (at_builtin; refine wpList_append_own _ rfl _ _ 56 rfl w.heap.size 5 i0 (.int .u8 0) 1 1 Try.underlying56 hi hz0 hz1 hz2 rfl (by decide) _ _ _ rfl (hown.alloc _) ⟨wr.heap.size, 0, none⟩ 1 1 [.int .u8 (m : Int)] rfl rfl (one_new _ _ _) (by intro u hu; simp at hu; subst hu; rfl) (by unfold maxLen; omega) (by omega) (by have := hbel.size; simp; omega) ?_; intro v' w1 hown' hgrow hnil; clear hnil; have hcv : (convert 56 9 v').run Try.prog w1 = .ok (.string ⟨(Pk.enc n).toArray⟩) w1 := own_str (base := w.heap.size) (by rw [← HM.out, HN.out]; exact hown'); have hb1 : Below w.heap.size w w1 := grow_below (Nat.le_refl _) hbel hown _ hgrow; clear hown' hgrow hown hbel)
        | go_in)
      go_ret
      exact ⟨rfl, hb1⟩
    · have b0 : decide ((128 : Int) ≤ (m : Int)) = true := by simp; omega
      have HE' : Hid (Pk.enc n = (pre ++ [UInt8.ofNat (m % 128 + 128)]) ++ Pk.enc (m / 128)) := (show Pk.enc n = _ by rw [HE.out, Pk.enc_ge h128]; simp)
      have HN : Hid (bc (pre ++ [UInt8.ofNat (m % 128 + 128)]) = bc pre ++ [.int .u8 ((m : Int) % 128 + 128)]) := (show bc _ = _ by
        rw [bc_append]; simp only [bc, List.map_cons, List.map_nil]; rw [Pk.toNat_ofNat (by omega)]; rfl)
      go_wp2_with (first
        | (at_builtin; refine wpList_append_own _ rfl _ _ 56 rfl w.heap.size 5 i0 (.int .u8 0) 1 1 Try.underlying56 hi hz0 hz1 hz2 rfl (by decide) _ _ _ rfl (hown.alloc _) ⟨wr.heap.size, 0, none⟩ 1 1 [.int .u8 ((m : Int) % 128 + 128)] rfl rfl (one_new _ _ _) (by intro u hu; simp at hu; subst hu; rfl) (by unfold maxLen; omega) (by omega) (by have := hbel.size; simp; omega) ?_; intro v' w1 hown' hgrow hnil; clear hnil; have HB1 : Hid (Below w.heap.size w w1) := grow_below (Nat.le_refl _) hbel hown _ hgrow)
        | go_in)
      refine ⟨⟨m / 128, pre ++ [UInt8.ofNat (m % 128 + 128)], by go_num, by omega, HE', ?_, HB1.out⟩, by simp [intOf]; omega⟩
      rw [HN.out, List.length_append]
      exact hown'

set_option maxHeartbeats 400000 in
theorem qtext_any (s : ByteArray) (hs : s.size ≤ 140737488351232) (w : World) :
    Calls Try.prog 29 #[.string s] w fun e w' => e = .returned (.string ((⟨(Pk.enc s.size).toArray⟩ : ByteArray) ++ s)) ∧ Below w.heap.size w w' := by
  have hlen := Pk.enc_ten (n := s.size) (by omega)
  have hadd : ∀ w1 : World, (Op.stringOp .add ⟨(Pk.enc s.size).toArray⟩ s).run Try.prog w1 = .ok (.string ((⟨(Pk.enc s.size).toArray⟩ : ByteArray) ++ s)) w1 := fun w1 =>
    run_string_add_sum w1 _ _ (by show (Pk.enc s.size).toArray.size + s.size ≤ _; simp; omega)
  generalize (⟨(Pk.enc s.size).toArray⟩ : ByteArray) ++ s = t at *
  go_enter Try.func29, Try.ntmps29
  go_wp2_with (go_at_call 25; refine (qnum_any s.size (by omega) _).mono ?_; rintro e w' ⟨rfl, hb⟩)
  go_ret
  exact ⟨rfl, hb⟩
end Go.Proofs.Ytjabnddjahhgoaa

namespace Go.Proofs.Ytjabnddjahhgoaa
open Go.RowKit

theorem big8_bc (n : Nat) (hn : n < 18446744073709551616) : bc (Pk.big8 n) = [.int .u8 ((n : Int) / 72057594037927936), .int .u8 ((n : Int) / 281474976710656 % 256), .int .u8 ((n : Int) / 1099511627776 % 256), .int .u8 ((n : Int) / 4294967296 % 256), .int .u8 ((n : Int) / 16777216 % 256), .int .u8 ((n : Int) / 65536 % 256), .int .u8 ((n : Int) / 256 % 256), .int .u8 ((n : Int) % 256)] := by
  have e : ∀ x : Nat, (UInt8.ofNat (x % 256)).toNat = x % 256 := fun x => Pk.toNat_ofNat (Nat.mod_lt _ (by decide))
  simp only [bc, Pk.big8, List.map_cons, List.map_nil, e]
  have e0 : ((n / 72057594037927936 % 256 : Nat) : Int) = (n : Int) / 72057594037927936 := by omega
  rw [e0]
  rfl

set_option maxHeartbeats 1600000 in
set_option maxRecDepth 8000 in
theorem qbits_any (n : Nat) (hn : n < 18446744073709551616) (w : World) :
    Calls Try.prog 30 #[.int .u64 (n : Int)] w fun e w' => e = .returned (.string ⟨(Pk.big8 n).toArray⟩) ∧ Below w.heap.size w w' := by
  obtain ⟨i0, hi, hz0, hz1, hz2⟩ := info_parts Try.infoB
  have HBC : Hid (bc (Pk.big8 n) = [.int .u8 ((n : Int) / 72057594037927936), .int .u8 ((n : Int) / 281474976710656 % 256), .int .u8 ((n : Int) / 1099511627776 % 256), .int .u8 ((n : Int) / 4294967296 % 256), .int .u8 ((n : Int) / 16777216 % 256), .int .u8 ((n : Int) / 65536 % 256), .int .u8 ((n : Int) / 256 % 256), .int .u8 ((n : Int) % 256)]) := big8_bc n hn
  go_enter Try.func30, Try.ntmps30
  go_wp2
  have hown0 : (w.alloc (.cells #[] 5)).ownsRow w.heap.size 5 1 (.slice (some ⟨w.heap.size, 0, none⟩) 0 0) 0 [] := World.ownsRow_made w #[] 0 (Nat.le_refl _) (by decide) rfl
  have hb0 : Below w.heap.size w (w.alloc (.cells #[] 5)) := below_alloc _ _
  generalize hw0 : w.alloc (.cells #[] 5) = w0 at *
  clear hw0
  refine wp_loop_rounds 9 ?_
  rw [rounds_succ]
  go_wp2_with (first
    | (at_builtin; refine wpList_append_own _ rfl _ _ 56 rfl w.heap.size 5 i0 (.int .u8 0) 1 1 Try.underlying56 hi hz0 hz1 hz2 rfl (by decide) _ _ _ rfl (hown0.alloc _) ⟨w0.heap.size, 0, none⟩ 1 1 [.int .u8 ((n : Int) / 72057594037927936)] rfl rfl (one_new _ _ _) (by intro u hu; simp at hu; subst hu; rfl) (by decide) (by decide) (by have := hb0.size; simp; omega) ?_; intro v1 w1 hown1 hgrow hnil; clear hnil; have hb1 : Below w.heap.size w w1 := grow_below (Nat.le_refl _) hb0 hown0 _ hgrow; clear hgrow hb0 hown0)
    | go_in)
  rw [rounds_succ]
  go_wp2_with (first
    | (at_builtin; refine wpList_append_own _ rfl _ _ 56 rfl w.heap.size 5 i0 (.int .u8 0) 1 1 Try.underlying56 hi hz0 hz1 hz2 rfl (by decide) _ _ _ rfl (hown1.alloc _) ⟨w1.heap.size, 0, none⟩ 1 1 [.int .u8 ((n : Int) / 281474976710656 % 256)] rfl rfl (one_new _ _ _) (by intro u hu; simp at hu; subst hu; rfl) (by decide) (by decide) (by have := hb1.size; simp; omega) ?_; intro v2 w2 hown2 hgrow hnil; clear hnil; have hb2 : Below w.heap.size w w2 := grow_below (Nat.le_refl _) hb1 hown1 _ hgrow; clear hgrow hb1 hown1)
    | go_in)
  rw [rounds_succ]
  go_wp2_with (first
    | (at_builtin; refine wpList_append_own _ rfl _ _ 56 rfl w.heap.size 5 i0 (.int .u8 0) 1 1 Try.underlying56 hi hz0 hz1 hz2 rfl (by decide) _ _ _ rfl (hown2.alloc _) ⟨w2.heap.size, 0, none⟩ 1 1 [.int .u8 ((n : Int) / 1099511627776 % 256)] rfl rfl (one_new _ _ _) (by intro u hu; simp at hu; subst hu; rfl) (by decide) (by decide) (by have := hb2.size; simp; omega) ?_; intro v3 w3 hown3 hgrow hnil; clear hnil; have hb3 : Below w.heap.size w w3 := grow_below (Nat.le_refl _) hb2 hown2 _ hgrow; clear hgrow hb2 hown2)
    | go_in)
  rw [rounds_succ]
  go_wp2_with (first
    | (at_builtin; refine wpList_append_own _ rfl _ _ 56 rfl w.heap.size 5 i0 (.int .u8 0) 1 1 Try.underlying56 hi hz0 hz1 hz2 rfl (by decide) _ _ _ rfl (hown3.alloc _) ⟨w3.heap.size, 0, none⟩ 1 1 [.int .u8 ((n : Int) / 4294967296 % 256)] rfl rfl (one_new _ _ _) (by intro u hu; simp at hu; subst hu; rfl) (by decide) (by decide) (by have := hb3.size; simp; omega) ?_; intro v4 w4 hown4 hgrow hnil; clear hnil; have hb4 : Below w.heap.size w w4 := grow_below (Nat.le_refl _) hb3 hown3 _ hgrow; clear hgrow hb3 hown3)
    | go_in)
  rw [rounds_succ]
  go_wp2_with (first
    | (at_builtin; refine wpList_append_own _ rfl _ _ 56 rfl w.heap.size 5 i0 (.int .u8 0) 1 1 Try.underlying56 hi hz0 hz1 hz2 rfl (by decide) _ _ _ rfl (hown4.alloc _) ⟨w4.heap.size, 0, none⟩ 1 1 [.int .u8 ((n : Int) / 16777216 % 256)] rfl rfl (one_new _ _ _) (by intro u hu; simp at hu; subst hu; rfl) (by decide) (by decide) (by have := hb4.size; simp; omega) ?_; intro v5 w5 hown5 hgrow hnil; clear hnil; have hb5 : Below w.heap.size w w5 := grow_below (Nat.le_refl _) hb4 hown4 _ hgrow; clear hgrow hb4 hown4)
    | go_in)
  rw [rounds_succ]
  go_wp2_with (first
    | (at_builtin; refine wpList_append_own _ rfl _ _ 56 rfl w.heap.size 5 i0 (.int .u8 0) 1 1 Try.underlying56 hi hz0 hz1 hz2 rfl (by decide) _ _ _ rfl (hown5.alloc _) ⟨w5.heap.size, 0, none⟩ 1 1 [.int .u8 ((n : Int) / 65536 % 256)] rfl rfl (one_new _ _ _) (by intro u hu; simp at hu; subst hu; rfl) (by decide) (by decide) (by have := hb5.size; simp; omega) ?_; intro v6 w6 hown6 hgrow hnil; clear hnil; have hb6 : Below w.heap.size w w6 := grow_below (Nat.le_refl _) hb5 hown5 _ hgrow; clear hgrow hb5 hown5)
    | go_in)
  rw [rounds_succ]
  go_wp2_with (first
    | (at_builtin; refine wpList_append_own _ rfl _ _ 56 rfl w.heap.size 5 i0 (.int .u8 0) 1 1 Try.underlying56 hi hz0 hz1 hz2 rfl (by decide) _ _ _ rfl (hown6.alloc _) ⟨w6.heap.size, 0, none⟩ 1 1 [.int .u8 ((n : Int) / 256 % 256)] rfl rfl (one_new _ _ _) (by intro u hu; simp at hu; subst hu; rfl) (by decide) (by decide) (by have := hb6.size; simp; omega) ?_; intro v7 w7 hown7 hgrow hnil; clear hnil; have hb7 : Below w.heap.size w w7 := grow_below (Nat.le_refl _) hb6 hown6 _ hgrow; clear hgrow hb6 hown6)
    | go_in)
  rw [rounds_succ]
  go_wp2_with (first
    | (at_builtin; refine wpList_append_own _ rfl _ _ 56 rfl w.heap.size 5 i0 (.int .u8 0) 1 1 Try.underlying56 hi hz0 hz1 hz2 rfl (by decide) _ _ _ rfl (hown7.alloc _) ⟨w7.heap.size, 0, none⟩ 1 1 [.int .u8 ((n : Int) % 256)] rfl rfl (one_new _ _ _) (by intro u hu; simp at hu; subst hu; rfl) (by decide) (by decide) (by have := hb7.size; simp; omega) ?_; intro v8 w8 hown8 hgrow hnil; clear hnil; have hb8 : Below w.heap.size w w8 := grow_below (Nat.le_refl _) hb7 hown7 _ hgrow; clear hgrow hb7 hown7)
    | go_in)
  have hcv : (convert 56 9 v8).run Try.prog w8 = .ok (.string ⟨(Pk.big8 n).toArray⟩) w8 := own_str (base := w.heap.size) (l := Pk.big8 n) (by rw [HBC.out]; exact hown8)
  clear hown8
  rw [rounds_succ]
  go_wp2
  go_ret
  exact ⟨rfl, hb8⟩

end Go.Proofs.Ytjabnddjahhgoaa

namespace Go.Proofs.Ytjabnddjahhgoaa
open Go.RowKit
open Rc (L V Ch)

theorem baS (a : List UInt8) (x : ByteArray) : (⟨a.toArray⟩ : ByteArray) ++ x = ⟨(a ++ x.data.toList).toArray⟩ := by
  apply ByteArray.ext
  rw [ByteArray.data_append]
  apply Array.ext'
  simp
theorem addS {a b : List UInt8} (h : a.length + b.length ≤ 100000) (W : World) : (Op.stringOp .add ⟨a.toArray⟩ ⟨b.toArray⟩).run Try.prog W = .ok (.string ⟨(a ++ b).toArray⟩) W := by
  have := run_string_add_sum (P := Try.prog) W ⟨a.toArray⟩ ⟨b.toArray⟩ (by show a.toArray.size + b.toArray.size ≤ _; simp; omega)
  rw [this, baS]
theorem bndM {l : L} {v : V} (h : Rc.may l v = true) : (Rc.least l : Int) ≤ Rc.sz l v ∧ Rc.sz l v ≤ (Rc.most l : Int) := by
  unfold Rc.may at h
  rw [Bool.and_eq_true, Bool.and_eq_true, decide_eq_true_eq] at h
  exact h.1.1
theorem bndT {v : V} (h : Rc.may .T v = true) : ∀ t ∈ v.l, t.size ≤ 32 := by
  unfold Rc.may at h
  rw [Bool.and_eq_true] at h
  have := h.2
  simp at this
  exact this
set_option maxHeartbeats 400000 in
theorem dnum_any (x : Nat) (hx : x < 9223372036854775808) (w : World) : Calls Try.prog 14 #[.int .i64 (x : Int)] w fun e w' => e = .returned (.string ⟨(Pk.enc x).toArray⟩) ∧ Below w.heap.size w w' := by
  have HQ := hide (fun (y : Int) (hy : y = (x : Int)) => show Calls Try.prog 25 #[.int .u64 y] w fun e w' => e = .returned (.string ⟨(Pk.enc x).toArray⟩) ∧ Below w.heap.size w w' from by subst hy; exact qnum_any x (by omega) w)
  go_enter Try.func14, Try.ntmps14
  go_wp2_with fail
  refine (HQ.out _ (by first | rfl | omega | (rw [IntKind.wrap_u64]; omega))).mono ?_
  rintro e w1 ⟨rfl, hB⟩
  have HB := hide hB
  clear hB
  go_wp2
  go_ret
  exact ⟨rfl, HB.out⟩
theorem rnumI (y : Int) (x : Nat) (hy : y = (x : Int)) (hx : x < 9223372036854775808) (w : World) : Calls Try.prog 14 #[.int .i64 y] w fun e w' => e = .returned (.string ⟨(Pk.enc x).toArray⟩) ∧ Below w.heap.size w w' := by subst hy; exact dnum_any x hx w
theorem dtext_any (s : ByteArray) (hs : s.size ≤ 100000) (w : World) : Calls Try.prog 29 #[.string s] w fun e w' => e = .returned (.string ⟨(Pk.enc s.size ++ s.data.toList).toArray⟩) ∧ Below w.heap.size w w' := by
  have := qtext_any s (by omega) w
  rw [baS] at this
  exact this
theorem Ca.ten {w : World} {A : Nat} {c : Ch} {t : Value} (h : Ca w A c t) : w.cell? ⟨A, 0, none⟩ = some (.int .i64 c.k) ∧ w.cell? ⟨A, 1, none⟩ = some (.int .i64 c.n) ∧ w.cell? ⟨A, 2, none⟩ = some (.int .i64 c.jo) ∧ w.cell? ⟨A, 3, none⟩ = some (.int .i64 c.ba) ∧ w.cell? ⟨A, 4, none⟩ = some (.int .i64 c.sl) ∧ w.cell? ⟨A, 5, none⟩ = some (.int .i64 c.li) ∧ w.cell? ⟨A, 6, none⟩ = some (.int .i64 c.rc) ∧ w.cell? ⟨A, 7, none⟩ = some (.int .u64 (c.rb : Int)) ∧ w.cell? ⟨A, 8, none⟩ = some (.string c.pr) ∧ w.cell? ⟨A, 9, none⟩ = some t := by
  unfold Ca at h; simp [World.cell?, h, chC]
set_option maxHeartbeats 4000000 in
set_option maxRecDepth 8000 in
theorem rput1_any {x rb : Nat} {jo ba sl li rc : Int} {pr : ByteArray} {tx : List ByteArray} (hx : x ≤ 1099511627776) (t : Value) (w : World) : Calls Try.prog 16 #[.agg (chC ⟨1, (x : Int), jo, ba, sl, li, rc, rb, pr, tx⟩ t)] w fun e w' => e = .returned (.string ⟨(Pk.enc 1 ++ Pk.enc x).toArray⟩) ∧ Below w.heap.size w w' := by
  have HC : Hid (∀ V, Below (w.alloc (.cells (chC ⟨1, (x : Int), jo, ba, sl, li, rc, rb, pr, tx⟩ t) 29)).heap.size (w.alloc (.cells (chC ⟨1, (x : Int), jo, ba, sl, li, rc, rb, pr, tx⟩ t) 29)) V → _) := hide (fun V hV => (Ca.block (heap_alloc_new w (.cells (chC ⟨1, (x : Int), jo, ba, sl, li, rc, rb, pr, tx⟩ t) 29) : Ca _ w.heap.size ⟨1, (x : Int), jo, ba, sl, li, rc, rb, pr, tx⟩ t) (hV.block _ (by rw [World.size_alloc]; omega))).ten)
  have HB0 : Hid (Below w.heap.size w (w.alloc (.cells (chC ⟨1, (x : Int), jo, ba, sl, li, rc, rb, pr, tx⟩ t) 29))) := hide (below_alloc w _)
  have e1 := Pk.enc_ten (n := 1) (by decide)
  have ex := Pk.enc_ten (n := x) (by omega)
  have hadd := fun W => addS (a := Pk.enc 1) (b := Pk.enc x) (by omega) W
  unfold chC at HC HB0 ⊢
  go_enter Try.func16, Try.ntmps16
  go_wp2_with fail
  refine (dnum_any 1 (by decide) _).mono ?_
  rintro e w1 ⟨rfl, hB1⟩
  have HB1 := hide hB1
  clear hB1
  obtain ⟨c0, c1, c2, c3, c4, c5, c6, c7, c8, c9⟩ := HC.out _ HB1.out
  go_wp2_with fail
  refine (dnum_any x (by omega) _).mono ?_
  rintro e w2 ⟨rfl, hB2⟩
  have HBf := hide (HB0.out.trans ((HB1.out.trans (hB2.mono HB1.out.size)).mono HB0.out.size))
  clear hB2 c0 c1 c2 c3 c4 c5 c6 c7 c8 c9
  go_wp2
  go_ret
  exact ⟨rfl, HBf.out⟩
set_option maxHeartbeats 4000000 in
set_option maxRecDepth 8000 in
theorem rput5_any {x rb : Nat} {n jo sl li rc : Int} {pr : ByteArray} {tx : List ByteArray} (hx : x ≤ 1099511627776) (t : Value) (w : World) : Calls Try.prog 16 #[.agg (chC ⟨5, n, jo, (x : Int), sl, li, rc, rb, pr, tx⟩ t)] w fun e w' => e = .returned (.string ⟨(Pk.enc 5 ++ Pk.enc x).toArray⟩) ∧ Below w.heap.size w w' := by
  have HC : Hid (∀ V, Below (w.alloc (.cells (chC ⟨5, n, jo, (x : Int), sl, li, rc, rb, pr, tx⟩ t) 29)).heap.size (w.alloc (.cells (chC ⟨5, n, jo, (x : Int), sl, li, rc, rb, pr, tx⟩ t) 29)) V → _) := hide (fun V hV => (Ca.block (heap_alloc_new w (.cells (chC ⟨5, n, jo, (x : Int), sl, li, rc, rb, pr, tx⟩ t) 29) : Ca _ w.heap.size ⟨5, n, jo, (x : Int), sl, li, rc, rb, pr, tx⟩ t) (hV.block _ (by rw [World.size_alloc]; omega))).ten)
  have HB0 : Hid (Below w.heap.size w (w.alloc (.cells (chC ⟨5, n, jo, (x : Int), sl, li, rc, rb, pr, tx⟩ t) 29))) := hide (below_alloc w _)
  have e5 := Pk.enc_ten (n := 5) (by decide)
  have ex := Pk.enc_ten (n := x) (by omega)
  have hadd := fun W => addS (a := Pk.enc 5) (b := Pk.enc x) (by omega) W
  unfold chC at HC HB0 ⊢
  go_enter Try.func16, Try.ntmps16
  go_wp2_with fail
  refine (dnum_any 5 (by decide) _).mono ?_
  rintro e w1 ⟨rfl, hB1⟩
  have HB1 := hide hB1
  clear hB1
  obtain ⟨c0, c1, c2, c3, c4, c5, c6, c7, c8, c9⟩ := HC.out _ HB1.out
  go_wp2_with fail
  refine (dnum_any x (by omega) _).mono ?_
  rintro e w2 ⟨rfl, hB2⟩
  have HBf := hide (HB0.out.trans ((HB1.out.trans (hB2.mono HB1.out.size)).mono HB0.out.size))
  clear hB2 c0 c1 c2 c3 c4 c5 c6 c7 c8 c9
  go_wp2
  go_ret
  exact ⟨rfl, HBf.out⟩
set_option maxHeartbeats 4000000 in
set_option maxRecDepth 8000 in
theorem rput2_any {x rb : Nat} {n ba sl li rc : Int} {pr : ByteArray} {tx : List ByteArray} (hx : x ≤ 8) (hp : pr.size ≤ 1024) (t : Value) (w : World) : Calls Try.prog 16 #[.agg (chC ⟨2, n, (x : Int), ba, sl, li, rc, rb, pr, tx⟩ t)] w fun e w' => e = .returned (.string ⟨(Pk.enc 2 ++ Pk.enc x ++ (Pk.enc pr.size ++ pr.data.toList)).toArray⟩) ∧ Below w.heap.size w w' := by
  have HC : Hid (∀ V, Below (w.alloc (.cells (chC ⟨2, n, (x : Int), ba, sl, li, rc, rb, pr, tx⟩ t) 29)).heap.size (w.alloc (.cells (chC ⟨2, n, (x : Int), ba, sl, li, rc, rb, pr, tx⟩ t) 29)) V → _) := hide (fun V hV => (Ca.block (heap_alloc_new w (.cells (chC ⟨2, n, (x : Int), ba, sl, li, rc, rb, pr, tx⟩ t) 29) : Ca _ w.heap.size ⟨2, n, (x : Int), ba, sl, li, rc, rb, pr, tx⟩ t) (hV.block _ (by rw [World.size_alloc]; omega))).ten)
  have HB0 : Hid (Below w.heap.size w (w.alloc (.cells (chC ⟨2, n, (x : Int), ba, sl, li, rc, rb, pr, tx⟩ t) 29))) := hide (below_alloc w _)
  have e2 := Pk.enc_ten (n := 2) (by decide)
  have ex := Pk.enc_ten (n := x) (by omega)
  have ep := Pk.enc_ten (n := pr.size) (by omega)
  have hpl : pr.data.toList.length = pr.size := by simp
  have hadd1 := fun W => addS (a := Pk.enc 2) (b := Pk.enc x) (by omega) W
  have hadd2 := fun W => addS (a := Pk.enc 2 ++ Pk.enc x) (b := Pk.enc pr.size ++ pr.data.toList) (by rw [List.length_append, List.length_append]; omega) W
  
  unfold chC at HC HB0 ⊢
  go_enter Try.func16, Try.ntmps16
  go_wp2_with fail
  refine (dnum_any 2 (by decide) _).mono ?_
  rintro e w1 ⟨rfl, hB1⟩
  have HB1 := hide hB1
  clear hB1
  obtain ⟨c0, c1, c2, c3, c4, c5, c6, c7, c8, c9⟩ := HC.out _ HB1.out
  generalize w.alloc (.cells #[.int .i64 2, .int .i64 n, .int .i64 (x : Int), .int .i64 ba, .int .i64 sl, .int .i64 li, .int .i64 rc, .int .u64 (rb : Int), .string pr, t] 29) = W0 at *
  go_wp2_with fail
  refine wp_region_held_drew (S := fun w' => Below W0.heap.size W0 w') (by kernel_rfl) (Below.trans HB1.out ⟨rfl, rfl, rfl, Nat.le_refl _, fun _ _ => rfl⟩) (fun hHeld => ?_)
  refine wpAnyH_take (i := 0) (v := .string ⟨(Pk.enc 2).toArray⟩) rfl (by kernel_rfl) (by kernel_rfl) (by kernel_rfl) (fun _ _ _ h => h) (Or.inl ⟨by kernel_rfl, fun w1 hSw => by clear hHeld; obtain ⟨c0, c1, c2, c3, c4, c5, c6, c7, c8, c9⟩ := HC.out _ hSw; clear hSw; go_simp⟩) hHeld ?_
  try simp only [Act.put]
  try simp only [List.getElem_toArray]
  try simp only [List.getElem_cons_succ]
  try simp only [List.getElem_cons_zero]
  try simp only [List.setIfInBounds_toArray]
  try simp only [List.set_cons_succ, List.set_cons_zero]
  refine wpAnyH_take (i := 1) (v := .pointer (some ⟨w.heap.size, 2, none⟩)) rfl (by kernel_rfl) (by kernel_rfl) (by kernel_rfl) (fun _ _ _ h => h) (Or.inl ⟨by kernel_rfl, fun w1 hSw => by clear hHeld; obtain ⟨c0, c1, c2, c3, c4, c5, c6, c7, c8, c9⟩ := HC.out _ hSw; clear hSw; go_simp⟩) hHeld ?_
  try simp only [Act.put]
  try simp only [List.getElem_toArray]
  try simp only [List.getElem_cons_succ]
  try simp only [List.getElem_cons_zero]
  try simp only [List.setIfInBounds_toArray]
  try simp only [List.set_cons_succ, List.set_cons_zero]
  refine wpAnyH_take (i := 2) (v := .int .i64 (x : Int)) rfl (by kernel_rfl) (by kernel_rfl) (by kernel_rfl) (fun _ _ _ h => h) (Or.inl ⟨by kernel_rfl, fun w1 hSw => by clear hHeld; obtain ⟨c0, c1, c2, c3, c4, c5, c6, c7, c8, c9⟩ := HC.out _ hSw; clear hSw; go_simp⟩) hHeld ?_
  try simp only [Act.put]
  try simp only [List.getElem_toArray]
  try simp only [List.getElem_cons_succ]
  try simp only [List.getElem_cons_zero]
  try simp only [List.setIfInBounds_toArray]
  try simp only [List.set_cons_succ, List.set_cons_zero]
  refine wpAnyH_take (i := 5) (v := .pointer (some ⟨w.heap.size, 8, none⟩)) rfl (by kernel_rfl) (by kernel_rfl) (by kernel_rfl) (fun _ _ _ h => h) (Or.inl ⟨by kernel_rfl, fun w1 hSw => by clear hHeld; obtain ⟨c0, c1, c2, c3, c4, c5, c6, c7, c8, c9⟩ := HC.out _ hSw; clear hSw; go_simp⟩) hHeld ?_
  try simp only [Act.put]
  try simp only [List.getElem_toArray]
  try simp only [List.getElem_cons_succ]
  try simp only [List.getElem_cons_zero]
  try simp only [List.setIfInBounds_toArray]
  try simp only [List.set_cons_succ, List.set_cons_zero]
  refine wpAnyH_take (i := 6) (v := .string pr) rfl (by kernel_rfl) (by kernel_rfl) (by kernel_rfl) (fun _ _ _ h => h) (Or.inl ⟨by kernel_rfl, fun w1 hSw => by clear hHeld; obtain ⟨c0, c1, c2, c3, c4, c5, c6, c7, c8, c9⟩ := HC.out _ hSw; clear hSw; go_simp⟩) hHeld ?_
  try simp only [Act.put]
  try simp only [List.getElem_toArray]
  try simp only [List.getElem_cons_succ]
  try simp only [List.getElem_cons_zero]
  try simp only [List.setIfInBounds_toArray]
  try simp only [List.set_cons_succ, List.set_cons_zero]
  refine wpAnyH_ready (rs := [3]) (by kernel_rfl) (by simp) ?_
  refine AllReadyH.cons rfl (fun K hK => ?_) AllReadyH.nil
  go_simp
  refine (dnum_any x (by omega) _).mono ?_
  rintro e w0 ⟨rfl, hB0⟩
  refine hK.out _ _ (Below.trans hHeld (hB0.mono hHeld.size)) (fun hHeld => ?_)
  clear hK K
  try simp only [Act.put]
  try simp only [List.getElem_toArray]
  try simp only [List.getElem_cons_succ]
  try simp only [List.getElem_cons_zero]
  try simp only [List.setIfInBounds_toArray]
  try simp only [List.set_cons_succ, List.set_cons_zero]
  refine wpAnyH_take (i := 4) (v := .string ⟨(Pk.enc 2 ++ Pk.enc x).toArray⟩) rfl (by kernel_rfl) (by kernel_rfl) (by kernel_rfl) (fun _ _ _ h => h) (Or.inl ⟨by kernel_rfl, fun w1 hSw => by clear hHeld; obtain ⟨c0, c1, c2, c3, c4, c5, c6, c7, c8, c9⟩ := HC.out _ hSw; clear hSw; go_simp⟩) hHeld ?_
  try simp only [Act.put]
  try simp only [List.getElem_toArray]
  try simp only [List.getElem_cons_succ]
  try simp only [List.getElem_cons_zero]
  try simp only [List.setIfInBounds_toArray]
  try simp only [List.set_cons_succ, List.set_cons_zero]
  refine wpAnyH_ready (rs := [7]) (by kernel_rfl) (by simp) ?_
  refine AllReadyH.cons rfl (fun K hK => ?_) AllReadyH.nil
  go_simp
  refine (dtext_any pr (by omega) _).mono ?_
  rintro e w1 ⟨rfl, hB1⟩
  refine hK.out _ _ (Below.trans hHeld (hB1.mono hHeld.size)) (fun hHeld => ?_)
  clear hK K
  try simp only [Act.put]
  try simp only [List.getElem_toArray]
  try simp only [List.getElem_cons_succ]
  try simp only [List.getElem_cons_zero]
  try simp only [List.setIfInBounds_toArray]
  try simp only [List.set_cons_succ, List.set_cons_zero]
  refine wpAnyH_take (i := 8) (v := .string ⟨(Pk.enc 2 ++ Pk.enc x ++ (Pk.enc pr.size ++ pr.data.toList)).toArray⟩) rfl (by kernel_rfl) (by kernel_rfl) (by kernel_rfl) (fun _ _ _ h => h) (Or.inl ⟨by kernel_rfl, fun w1 hSw => by clear hHeld; obtain ⟨c0, c1, c2, c3, c4, c5, c6, c7, c8, c9⟩ := HC.out _ hSw; clear hSw; go_simp⟩) hHeld ?_
  try simp only [Act.put]
  try simp only [List.getElem_toArray]
  try simp only [List.getElem_cons_succ]
  try simp only [List.getElem_cons_zero]
  try simp only [List.setIfInBounds_toArray]
  try simp only [List.set_cons_succ, List.set_cons_zero]
  refine wpAnyH_take (i := 9) (v := .string ⟨(Pk.enc 2 ++ Pk.enc x ++ (Pk.enc pr.size ++ pr.data.toList)).toArray⟩) rfl (by kernel_rfl) (by kernel_rfl) (by kernel_rfl) (fun _ _ _ h => h) (Or.inl ⟨by kernel_rfl, fun w1 hSw => by clear hHeld; obtain ⟨c0, c1, c2, c3, c4, c5, c6, c7, c8, c9⟩ := HC.out _ hSw; clear hSw; go_simp⟩) hHeld ?_
  try simp only [Act.put]
  try simp only [List.getElem_toArray]
  try simp only [List.getElem_cons_succ]
  try simp only [List.getElem_cons_zero]
  try simp only [List.setIfInBounds_toArray]
  try simp only [List.set_cons_succ, List.set_cons_zero]
  refine wpAnyH_done (by kernel_rfl) ?_ _
  have HBf := hide (HB0.out.trans (hHeld.mono HB0.out.size))
  clear hHeld
  go_wp2
  go_ret
  exact ⟨rfl, HBf.out⟩
set_option maxHeartbeats 4000000 in
set_option maxRecDepth 8000 in
theorem rput3_any {x y z u rb : Nat} {n rc : Int} {pr : ByteArray} {tx : List ByteArray} (hx : x ≤ 8) (hy : y ≤ 1099511627776) (hz : z ≤ 7) (hu : u ≤ 1099511627776) (t : Value) (w : World) : Calls Try.prog 16 #[.agg (chC ⟨3, n, (x : Int), (y : Int), (z : Int), (u : Int), rc, rb, pr, tx⟩ t)] w fun e w' => e = .returned (.string ⟨(Pk.enc 3 ++ Pk.enc x ++ Pk.enc y ++ Pk.enc z ++ Pk.enc u).toArray⟩) ∧ Below w.heap.size w w' := by
  have HC : Hid (∀ V, Below (w.alloc (.cells (chC ⟨3, n, (x : Int), (y : Int), (z : Int), (u : Int), rc, rb, pr, tx⟩ t) 29)).heap.size (w.alloc (.cells (chC ⟨3, n, (x : Int), (y : Int), (z : Int), (u : Int), rc, rb, pr, tx⟩ t) 29)) V → _) := hide (fun V hV => (Ca.block (heap_alloc_new w (.cells (chC ⟨3, n, (x : Int), (y : Int), (z : Int), (u : Int), rc, rb, pr, tx⟩ t) 29) : Ca _ w.heap.size ⟨3, n, (x : Int), (y : Int), (z : Int), (u : Int), rc, rb, pr, tx⟩ t) (hV.block _ (by rw [World.size_alloc]; omega))).ten)
  have HB0 : Hid (Below w.heap.size w (w.alloc (.cells (chC ⟨3, n, (x : Int), (y : Int), (z : Int), (u : Int), rc, rb, pr, tx⟩ t) 29))) := hide (below_alloc w _)
  have e3 := Pk.enc_ten (n := 3) (by decide)
  have ex := Pk.enc_ten (n := x) (by omega)
  have ey := Pk.enc_ten (n := y) (by omega)
  have ez := Pk.enc_ten (n := z) (by omega)
  have eu := Pk.enc_ten (n := u) (by omega)
  obtain ⟨A1, hA1⟩ : ∃ A, A = Pk.enc 3 ++ Pk.enc x := ⟨_, rfl⟩
  have lA1 : A1.length ≤ 20 := by rw [hA1, List.length_append]; omega
  have addA1 : ∀ W, (Op.stringOp .add ⟨(Pk.enc 3).toArray⟩ ⟨(Pk.enc x).toArray⟩).run Try.prog W = .ok (.string ⟨(A1).toArray⟩) W := fun W => by rw [hA1]; exact addS (by omega) W
  obtain ⟨A2, hA2⟩ : ∃ A, A = A1 ++ Pk.enc y := ⟨_, rfl⟩
  have lA2 : A2.length ≤ 30 := by rw [hA2, List.length_append]; omega
  have addA2 : ∀ W, (Op.stringOp .add ⟨(A1).toArray⟩ ⟨(Pk.enc y).toArray⟩).run Try.prog W = .ok (.string ⟨(A2).toArray⟩) W := fun W => by rw [hA2]; exact addS (by omega) W
  obtain ⟨A3, hA3⟩ : ∃ A, A = A2 ++ Pk.enc z := ⟨_, rfl⟩
  have lA3 : A3.length ≤ 40 := by rw [hA3, List.length_append]; omega
  have addA3 : ∀ W, (Op.stringOp .add ⟨(A2).toArray⟩ ⟨(Pk.enc z).toArray⟩).run Try.prog W = .ok (.string ⟨(A3).toArray⟩) W := fun W => by rw [hA3]; exact addS (by omega) W
  obtain ⟨A4, hA4⟩ : ∃ A, A = A3 ++ Pk.enc u := ⟨_, rfl⟩
  have lA4 : A4.length ≤ 50 := by rw [hA4, List.length_append]; omega
  have addA4 : ∀ W, (Op.stringOp .add ⟨(A3).toArray⟩ ⟨(Pk.enc u).toArray⟩).run Try.prog W = .ok (.string ⟨(A4).toArray⟩) W := fun W => by rw [hA4]; exact addS (by omega) W
  rw [← hA1, ← hA2, ← hA3, ← hA4]
  clear hA1 hA2 hA3 hA4
  unfold chC at HC HB0 ⊢
  go_enter Try.func16, Try.ntmps16
  go_wp2_with fail
  refine (dnum_any 3 (by decide) _).mono ?_
  rintro e w1 ⟨rfl, hB1⟩
  have HB1 := hide hB1
  clear hB1
  obtain ⟨c0, c1, c2, c3, c4, c5, c6, c7, c8, c9⟩ := HC.out _ HB1.out
  generalize w.alloc (.cells #[.int .i64 3, .int .i64 n, .int .i64 (x : Int), .int .i64 (y : Int), .int .i64 (z : Int), .int .i64 (u : Int), .int .i64 rc, .int .u64 (rb : Int), .string pr, t] 29) = W0 at *
  go_wp2_with fail
  refine wp_region_held_drew (S := fun w' => Below W0.heap.size W0 w') (by kernel_rfl) (Below.trans HB1.out ⟨rfl, rfl, rfl, Nat.le_refl _, fun _ _ => rfl⟩) (fun hHeld => ?_)
  refine wpAnyH_take (i := 0) (v := .string ⟨(Pk.enc 3).toArray⟩) rfl (by kernel_rfl) (by kernel_rfl) (by kernel_rfl) (fun _ _ _ h => h) (Or.inl ⟨by kernel_rfl, fun w1 hSw => by clear hHeld; obtain ⟨c0, c1, c2, c3, c4, c5, c6, c7, c8, c9⟩ := HC.out _ hSw; clear hSw; go_simp⟩) hHeld ?_
  try simp only [Act.put]
  try simp only [List.getElem_toArray]
  try simp only [List.getElem_cons_succ]
  try simp only [List.getElem_cons_zero]
  try simp only [List.setIfInBounds_toArray]
  try simp only [List.set_cons_succ, List.set_cons_zero]
  refine wpAnyH_take (i := 1) (v := .pointer (some ⟨w.heap.size, 2, none⟩)) rfl (by kernel_rfl) (by kernel_rfl) (by kernel_rfl) (fun _ _ _ h => h) (Or.inl ⟨by kernel_rfl, fun w1 hSw => by clear hHeld; obtain ⟨c0, c1, c2, c3, c4, c5, c6, c7, c8, c9⟩ := HC.out _ hSw; clear hSw; go_simp⟩) hHeld ?_
  try simp only [Act.put]
  try simp only [List.getElem_toArray]
  try simp only [List.getElem_cons_succ]
  try simp only [List.getElem_cons_zero]
  try simp only [List.setIfInBounds_toArray]
  try simp only [List.set_cons_succ, List.set_cons_zero]
  refine wpAnyH_take (i := 2) (v := .int .i64 (x : Int)) rfl (by kernel_rfl) (by kernel_rfl) (by kernel_rfl) (fun _ _ _ h => h) (Or.inl ⟨by kernel_rfl, fun w1 hSw => by clear hHeld; obtain ⟨c0, c1, c2, c3, c4, c5, c6, c7, c8, c9⟩ := HC.out _ hSw; clear hSw; go_simp⟩) hHeld ?_
  try simp only [Act.put]
  try simp only [List.getElem_toArray]
  try simp only [List.getElem_cons_succ]
  try simp only [List.getElem_cons_zero]
  try simp only [List.setIfInBounds_toArray]
  try simp only [List.set_cons_succ, List.set_cons_zero]
  refine wpAnyH_take (i := 5) (v := .pointer (some ⟨w.heap.size, 3, none⟩)) rfl (by kernel_rfl) (by kernel_rfl) (by kernel_rfl) (fun _ _ _ h => h) (Or.inl ⟨by kernel_rfl, fun w1 hSw => by clear hHeld; obtain ⟨c0, c1, c2, c3, c4, c5, c6, c7, c8, c9⟩ := HC.out _ hSw; clear hSw; go_simp⟩) hHeld ?_
  try simp only [Act.put]
  try simp only [List.getElem_toArray]
  try simp only [List.getElem_cons_succ]
  try simp only [List.getElem_cons_zero]
  try simp only [List.setIfInBounds_toArray]
  try simp only [List.set_cons_succ, List.set_cons_zero]
  refine wpAnyH_take (i := 6) (v := .int .i64 (y : Int)) rfl (by kernel_rfl) (by kernel_rfl) (by kernel_rfl) (fun _ _ _ h => h) (Or.inl ⟨by kernel_rfl, fun w1 hSw => by clear hHeld; obtain ⟨c0, c1, c2, c3, c4, c5, c6, c7, c8, c9⟩ := HC.out _ hSw; clear hSw; go_simp⟩) hHeld ?_
  try simp only [Act.put]
  try simp only [List.getElem_toArray]
  try simp only [List.getElem_cons_succ]
  try simp only [List.getElem_cons_zero]
  try simp only [List.setIfInBounds_toArray]
  try simp only [List.set_cons_succ, List.set_cons_zero]
  refine wpAnyH_take (i := 9) (v := .pointer (some ⟨w.heap.size, 4, none⟩)) rfl (by kernel_rfl) (by kernel_rfl) (by kernel_rfl) (fun _ _ _ h => h) (Or.inl ⟨by kernel_rfl, fun w1 hSw => by clear hHeld; obtain ⟨c0, c1, c2, c3, c4, c5, c6, c7, c8, c9⟩ := HC.out _ hSw; clear hSw; go_simp⟩) hHeld ?_
  try simp only [Act.put]
  try simp only [List.getElem_toArray]
  try simp only [List.getElem_cons_succ]
  try simp only [List.getElem_cons_zero]
  try simp only [List.setIfInBounds_toArray]
  try simp only [List.set_cons_succ, List.set_cons_zero]
  refine wpAnyH_take (i := 10) (v := .int .i64 (z : Int)) rfl (by kernel_rfl) (by kernel_rfl) (by kernel_rfl) (fun _ _ _ h => h) (Or.inl ⟨by kernel_rfl, fun w1 hSw => by clear hHeld; obtain ⟨c0, c1, c2, c3, c4, c5, c6, c7, c8, c9⟩ := HC.out _ hSw; clear hSw; go_simp⟩) hHeld ?_
  try simp only [Act.put]
  try simp only [List.getElem_toArray]
  try simp only [List.getElem_cons_succ]
  try simp only [List.getElem_cons_zero]
  try simp only [List.setIfInBounds_toArray]
  try simp only [List.set_cons_succ, List.set_cons_zero]
  refine wpAnyH_take (i := 13) (v := .pointer (some ⟨w.heap.size, 5, none⟩)) rfl (by kernel_rfl) (by kernel_rfl) (by kernel_rfl) (fun _ _ _ h => h) (Or.inl ⟨by kernel_rfl, fun w1 hSw => by clear hHeld; obtain ⟨c0, c1, c2, c3, c4, c5, c6, c7, c8, c9⟩ := HC.out _ hSw; clear hSw; go_simp⟩) hHeld ?_
  try simp only [Act.put]
  try simp only [List.getElem_toArray]
  try simp only [List.getElem_cons_succ]
  try simp only [List.getElem_cons_zero]
  try simp only [List.setIfInBounds_toArray]
  try simp only [List.set_cons_succ, List.set_cons_zero]
  refine wpAnyH_take (i := 14) (v := .int .i64 (u : Int)) rfl (by kernel_rfl) (by kernel_rfl) (by kernel_rfl) (fun _ _ _ h => h) (Or.inl ⟨by kernel_rfl, fun w1 hSw => by clear hHeld; obtain ⟨c0, c1, c2, c3, c4, c5, c6, c7, c8, c9⟩ := HC.out _ hSw; clear hSw; go_simp⟩) hHeld ?_
  try simp only [Act.put]
  try simp only [List.getElem_toArray]
  try simp only [List.getElem_cons_succ]
  try simp only [List.getElem_cons_zero]
  try simp only [List.setIfInBounds_toArray]
  try simp only [List.set_cons_succ, List.set_cons_zero]
  refine wpAnyH_ready (rs := [3]) (by kernel_rfl) (by simp) ?_
  refine AllReadyH.cons rfl (fun K hK => ?_) AllReadyH.nil
  go_simp
  refine (dnum_any x (by omega) _).mono ?_
  rintro e w0 ⟨rfl, hB0⟩
  refine hK.out _ _ (Below.trans hHeld (hB0.mono hHeld.size)) (fun hHeld => ?_)
  clear hK K
  try simp only [Act.put]
  try simp only [List.getElem_toArray]
  try simp only [List.getElem_cons_succ]
  try simp only [List.getElem_cons_zero]
  try simp only [List.setIfInBounds_toArray]
  try simp only [List.set_cons_succ, List.set_cons_zero]
  refine wpAnyH_take (i := 4) (v := .string ⟨(A1).toArray⟩) rfl (by kernel_rfl) (by kernel_rfl) (by kernel_rfl) (fun _ _ _ h => h) (Or.inl ⟨by kernel_rfl, fun w1 hSw => by clear hHeld; obtain ⟨c0, c1, c2, c3, c4, c5, c6, c7, c8, c9⟩ := HC.out _ hSw; clear hSw; go_simp⟩) hHeld ?_
  try simp only [Act.put]
  try simp only [List.getElem_toArray]
  try simp only [List.getElem_cons_succ]
  try simp only [List.getElem_cons_zero]
  try simp only [List.setIfInBounds_toArray]
  try simp only [List.set_cons_succ, List.set_cons_zero]
  refine wpAnyH_ready (rs := [7]) (by kernel_rfl) (by simp) ?_
  refine AllReadyH.cons rfl (fun K hK => ?_) AllReadyH.nil
  go_simp
  refine (dnum_any y (by omega) _).mono ?_
  rintro e w1 ⟨rfl, hB1⟩
  refine hK.out _ _ (Below.trans hHeld (hB1.mono hHeld.size)) (fun hHeld => ?_)
  clear hK K
  try simp only [Act.put]
  try simp only [List.getElem_toArray]
  try simp only [List.getElem_cons_succ]
  try simp only [List.getElem_cons_zero]
  try simp only [List.setIfInBounds_toArray]
  try simp only [List.set_cons_succ, List.set_cons_zero]
  refine wpAnyH_take (i := 8) (v := .string ⟨(A2).toArray⟩) rfl (by kernel_rfl) (by kernel_rfl) (by kernel_rfl) (fun _ _ _ h => h) (Or.inl ⟨by kernel_rfl, fun w1 hSw => by clear hHeld; obtain ⟨c0, c1, c2, c3, c4, c5, c6, c7, c8, c9⟩ := HC.out _ hSw; clear hSw; go_simp⟩) hHeld ?_
  try simp only [Act.put]
  try simp only [List.getElem_toArray]
  try simp only [List.getElem_cons_succ]
  try simp only [List.getElem_cons_zero]
  try simp only [List.setIfInBounds_toArray]
  try simp only [List.set_cons_succ, List.set_cons_zero]
  refine wpAnyH_ready (rs := [11]) (by kernel_rfl) (by simp) ?_
  refine AllReadyH.cons rfl (fun K hK => ?_) AllReadyH.nil
  go_simp
  refine (dnum_any z (by omega) _).mono ?_
  rintro e w2 ⟨rfl, hB2⟩
  refine hK.out _ _ (Below.trans hHeld (hB2.mono hHeld.size)) (fun hHeld => ?_)
  clear hK K
  try simp only [Act.put]
  try simp only [List.getElem_toArray]
  try simp only [List.getElem_cons_succ]
  try simp only [List.getElem_cons_zero]
  try simp only [List.setIfInBounds_toArray]
  try simp only [List.set_cons_succ, List.set_cons_zero]
  refine wpAnyH_take (i := 12) (v := .string ⟨(A3).toArray⟩) rfl (by kernel_rfl) (by kernel_rfl) (by kernel_rfl) (fun _ _ _ h => h) (Or.inl ⟨by kernel_rfl, fun w1 hSw => by clear hHeld; obtain ⟨c0, c1, c2, c3, c4, c5, c6, c7, c8, c9⟩ := HC.out _ hSw; clear hSw; go_simp⟩) hHeld ?_
  try simp only [Act.put]
  try simp only [List.getElem_toArray]
  try simp only [List.getElem_cons_succ]
  try simp only [List.getElem_cons_zero]
  try simp only [List.setIfInBounds_toArray]
  try simp only [List.set_cons_succ, List.set_cons_zero]
  refine wpAnyH_ready (rs := [15]) (by kernel_rfl) (by simp) ?_
  refine AllReadyH.cons rfl (fun K hK => ?_) AllReadyH.nil
  go_simp
  refine (dnum_any u (by omega) _).mono ?_
  rintro e w3 ⟨rfl, hB3⟩
  refine hK.out _ _ (Below.trans hHeld (hB3.mono hHeld.size)) (fun hHeld => ?_)
  clear hK K
  try simp only [Act.put]
  try simp only [List.getElem_toArray]
  try simp only [List.getElem_cons_succ]
  try simp only [List.getElem_cons_zero]
  try simp only [List.setIfInBounds_toArray]
  try simp only [List.set_cons_succ, List.set_cons_zero]
  refine wpAnyH_take (i := 16) (v := .string ⟨(A4).toArray⟩) rfl (by kernel_rfl) (by kernel_rfl) (by kernel_rfl) (fun _ _ _ h => h) (Or.inl ⟨by kernel_rfl, fun w1 hSw => by clear hHeld; obtain ⟨c0, c1, c2, c3, c4, c5, c6, c7, c8, c9⟩ := HC.out _ hSw; clear hSw; go_simp⟩) hHeld ?_
  try simp only [Act.put]
  try simp only [List.getElem_toArray]
  try simp only [List.getElem_cons_succ]
  try simp only [List.getElem_cons_zero]
  try simp only [List.setIfInBounds_toArray]
  try simp only [List.set_cons_succ, List.set_cons_zero]
  refine wpAnyH_take (i := 17) (v := .string ⟨(A4).toArray⟩) rfl (by kernel_rfl) (by kernel_rfl) (by kernel_rfl) (fun _ _ _ h => h) (Or.inl ⟨by kernel_rfl, fun w1 hSw => by clear hHeld; obtain ⟨c0, c1, c2, c3, c4, c5, c6, c7, c8, c9⟩ := HC.out _ hSw; clear hSw; go_simp⟩) hHeld ?_
  try simp only [Act.put]
  try simp only [List.getElem_toArray]
  try simp only [List.getElem_cons_succ]
  try simp only [List.getElem_cons_zero]
  try simp only [List.setIfInBounds_toArray]
  try simp only [List.set_cons_succ, List.set_cons_zero]
  refine wpAnyH_done (by kernel_rfl) ?_ _
  have HBf := hide (HB0.out.trans (hHeld.mono HB0.out.size))
  clear hHeld
  go_wp2
  go_ret
  exact ⟨rfl, HBf.out⟩
set_option maxHeartbeats 4000000 in
set_option maxRecDepth 8000 in
theorem rput6_any {x y rb : Nat} {n jo sl li : Int} {pr : ByteArray} {tx : List ByteArray} (hx : x ≤ 1099511627776) (hy : y ≤ 7) (hrb : rb < 18446744073709551616) (t : Value) (w : World) : Calls Try.prog 16 #[.agg (chC ⟨6, n, jo, (x : Int), sl, li, (y : Int), rb, pr, tx⟩ t)] w fun e w' => e = .returned (.string ⟨(Pk.enc 6 ++ Pk.enc x ++ Pk.enc y ++ Pk.big8 rb).toArray⟩) ∧ Below w.heap.size w w' := by
  have HC : Hid (∀ V, Below (w.alloc (.cells (chC ⟨6, n, jo, (x : Int), sl, li, (y : Int), rb, pr, tx⟩ t) 29)).heap.size (w.alloc (.cells (chC ⟨6, n, jo, (x : Int), sl, li, (y : Int), rb, pr, tx⟩ t) 29)) V → _) := hide (fun V hV => (Ca.block (heap_alloc_new w (.cells (chC ⟨6, n, jo, (x : Int), sl, li, (y : Int), rb, pr, tx⟩ t) 29) : Ca _ w.heap.size ⟨6, n, jo, (x : Int), sl, li, (y : Int), rb, pr, tx⟩ t) (hV.block _ (by rw [World.size_alloc]; omega))).ten)
  have HB0 : Hid (Below w.heap.size w (w.alloc (.cells (chC ⟨6, n, jo, (x : Int), sl, li, (y : Int), rb, pr, tx⟩ t) 29))) := hide (below_alloc w _)
  have e6 := Pk.enc_ten (n := 6) (by decide)
  have ex := Pk.enc_ten (n := x) (by omega)
  have ey := Pk.enc_ten (n := y) (by omega)
  have eb : (Pk.big8 rb).length = 8 := rfl
  have HQb := hide (qbits_any rb hrb)
  obtain ⟨A1, hA1⟩ : ∃ A, A = Pk.enc 6 ++ Pk.enc x := ⟨_, rfl⟩
  have lA1 : A1.length ≤ 20 := by rw [hA1, List.length_append]; omega
  have addA1 : ∀ W, (Op.stringOp .add ⟨(Pk.enc 6).toArray⟩ ⟨(Pk.enc x).toArray⟩).run Try.prog W = .ok (.string ⟨(A1).toArray⟩) W := fun W => by rw [hA1]; exact addS (by omega) W
  obtain ⟨A2, hA2⟩ : ∃ A, A = A1 ++ Pk.enc y := ⟨_, rfl⟩
  have lA2 : A2.length ≤ 30 := by rw [hA2, List.length_append]; omega
  have addA2 : ∀ W, (Op.stringOp .add ⟨(A1).toArray⟩ ⟨(Pk.enc y).toArray⟩).run Try.prog W = .ok (.string ⟨(A2).toArray⟩) W := fun W => by rw [hA2]; exact addS (by omega) W
  obtain ⟨A3, hA3⟩ : ∃ A, A = A2 ++ Pk.big8 rb := ⟨_, rfl⟩
  have lA3 : A3.length ≤ 40 := by rw [hA3, List.length_append]; omega
  have addA3 : ∀ W, (Op.stringOp .add ⟨(A2).toArray⟩ ⟨(Pk.big8 rb).toArray⟩).run Try.prog W = .ok (.string ⟨(A3).toArray⟩) W := fun W => by rw [hA3]; exact addS (by omega) W
  rw [← hA1, ← hA2, ← hA3]
  clear hA1 hA2 hA3
  generalize Pk.big8 rb = G8 at *
  unfold chC at HC HB0 ⊢
  go_enter Try.func16, Try.ntmps16
  go_wp2_with fail
  refine (dnum_any 6 (by decide) _).mono ?_
  rintro e w1 ⟨rfl, hB1⟩
  have HB1 := hide hB1
  clear hB1
  obtain ⟨c0, c1, c2, c3, c4, c5, c6, c7, c8, c9⟩ := HC.out _ HB1.out
  generalize w.alloc (.cells #[.int .i64 6, .int .i64 n, .int .i64 jo, .int .i64 (x : Int), .int .i64 sl, .int .i64 li, .int .i64 (y : Int), .int .u64 (rb : Int), .string pr, t] 29) = W0 at *
  go_wp2_with fail
  refine wp_region_held_drew (S := fun w' => Below W0.heap.size W0 w') (by kernel_rfl) (Below.trans HB1.out ⟨rfl, rfl, rfl, Nat.le_refl _, fun _ _ => rfl⟩) (fun hHeld => ?_)
  refine wpAnyH_take (i := 0) (v := .string ⟨(Pk.enc 6).toArray⟩) rfl (by kernel_rfl) (by kernel_rfl) (by kernel_rfl) (fun _ _ _ h => h) (Or.inl ⟨by kernel_rfl, fun w1 hSw => by clear hHeld; obtain ⟨c0, c1, c2, c3, c4, c5, c6, c7, c8, c9⟩ := HC.out _ hSw; clear hSw; go_simp⟩) hHeld ?_
  try simp only [Act.put]
  try simp only [List.getElem_toArray]
  try simp only [List.getElem_cons_succ]
  try simp only [List.getElem_cons_zero]
  try simp only [List.setIfInBounds_toArray]
  try simp only [List.set_cons_succ, List.set_cons_zero]
  refine wpAnyH_take (i := 1) (v := .pointer (some ⟨w.heap.size, 3, none⟩)) rfl (by kernel_rfl) (by kernel_rfl) (by kernel_rfl) (fun _ _ _ h => h) (Or.inl ⟨by kernel_rfl, fun w1 hSw => by clear hHeld; obtain ⟨c0, c1, c2, c3, c4, c5, c6, c7, c8, c9⟩ := HC.out _ hSw; clear hSw; go_simp⟩) hHeld ?_
  try simp only [Act.put]
  try simp only [List.getElem_toArray]
  try simp only [List.getElem_cons_succ]
  try simp only [List.getElem_cons_zero]
  try simp only [List.setIfInBounds_toArray]
  try simp only [List.set_cons_succ, List.set_cons_zero]
  refine wpAnyH_take (i := 2) (v := .int .i64 (x : Int)) rfl (by kernel_rfl) (by kernel_rfl) (by kernel_rfl) (fun _ _ _ h => h) (Or.inl ⟨by kernel_rfl, fun w1 hSw => by clear hHeld; obtain ⟨c0, c1, c2, c3, c4, c5, c6, c7, c8, c9⟩ := HC.out _ hSw; clear hSw; go_simp⟩) hHeld ?_
  try simp only [Act.put]
  try simp only [List.getElem_toArray]
  try simp only [List.getElem_cons_succ]
  try simp only [List.getElem_cons_zero]
  try simp only [List.setIfInBounds_toArray]
  try simp only [List.set_cons_succ, List.set_cons_zero]
  refine wpAnyH_take (i := 5) (v := .pointer (some ⟨w.heap.size, 6, none⟩)) rfl (by kernel_rfl) (by kernel_rfl) (by kernel_rfl) (fun _ _ _ h => h) (Or.inl ⟨by kernel_rfl, fun w1 hSw => by clear hHeld; obtain ⟨c0, c1, c2, c3, c4, c5, c6, c7, c8, c9⟩ := HC.out _ hSw; clear hSw; go_simp⟩) hHeld ?_
  try simp only [Act.put]
  try simp only [List.getElem_toArray]
  try simp only [List.getElem_cons_succ]
  try simp only [List.getElem_cons_zero]
  try simp only [List.setIfInBounds_toArray]
  try simp only [List.set_cons_succ, List.set_cons_zero]
  refine wpAnyH_take (i := 6) (v := .pointer (some ⟨w.heap.size, 6, none⟩)) rfl (by kernel_rfl) (by kernel_rfl) (by kernel_rfl) (fun _ _ _ h => h) (Or.inl ⟨by kernel_rfl, fun w1 hSw => by clear hHeld; obtain ⟨c0, c1, c2, c3, c4, c5, c6, c7, c8, c9⟩ := HC.out _ hSw; clear hSw; go_simp⟩) hHeld ?_
  try simp only [Act.put]
  try simp only [List.getElem_toArray]
  try simp only [List.getElem_cons_succ]
  try simp only [List.getElem_cons_zero]
  try simp only [List.setIfInBounds_toArray]
  try simp only [List.set_cons_succ, List.set_cons_zero]
  refine wpAnyH_take (i := 7) (v := .int .i64 (y : Int)) rfl (by kernel_rfl) (by kernel_rfl) (by kernel_rfl) (fun _ _ _ h => h) (Or.inl ⟨by kernel_rfl, fun w1 hSw => by clear hHeld; obtain ⟨c0, c1, c2, c3, c4, c5, c6, c7, c8, c9⟩ := HC.out _ hSw; clear hSw; go_simp⟩) hHeld ?_
  try simp only [Act.put]
  try simp only [List.getElem_toArray]
  try simp only [List.getElem_cons_succ]
  try simp only [List.getElem_cons_zero]
  try simp only [List.setIfInBounds_toArray]
  try simp only [List.set_cons_succ, List.set_cons_zero]
  refine wpAnyH_take (i := 10) (v := .pointer (some ⟨w.heap.size, 6, none⟩)) rfl (by kernel_rfl) (by kernel_rfl) (by kernel_rfl) (fun _ _ _ h => h) (Or.inl ⟨by kernel_rfl, fun w1 hSw => by clear hHeld; obtain ⟨c0, c1, c2, c3, c4, c5, c6, c7, c8, c9⟩ := HC.out _ hSw; clear hSw; go_simp⟩) hHeld ?_
  try simp only [Act.put]
  try simp only [List.getElem_toArray]
  try simp only [List.getElem_cons_succ]
  try simp only [List.getElem_cons_zero]
  try simp only [List.setIfInBounds_toArray]
  try simp only [List.set_cons_succ, List.set_cons_zero]
  refine wpAnyH_take (i := 11) (v := .pointer (some ⟨w.heap.size, 7, none⟩)) rfl (by kernel_rfl) (by kernel_rfl) (by kernel_rfl) (fun _ _ _ h => h) (Or.inl ⟨by kernel_rfl, fun w1 hSw => by clear hHeld; obtain ⟨c0, c1, c2, c3, c4, c5, c6, c7, c8, c9⟩ := HC.out _ hSw; clear hSw; go_simp⟩) hHeld ?_
  try simp only [Act.put]
  try simp only [List.getElem_toArray]
  try simp only [List.getElem_cons_succ]
  try simp only [List.getElem_cons_zero]
  try simp only [List.setIfInBounds_toArray]
  try simp only [List.set_cons_succ, List.set_cons_zero]
  refine wpAnyH_take (i := 12) (v := .int .u64 (rb : Int)) rfl (by kernel_rfl) (by kernel_rfl) (by kernel_rfl) (fun _ _ _ h => h) (Or.inl ⟨by kernel_rfl, fun w1 hSw => by clear hHeld; obtain ⟨c0, c1, c2, c3, c4, c5, c6, c7, c8, c9⟩ := HC.out _ hSw; clear hSw; go_simp⟩) hHeld ?_
  try simp only [Act.put]
  try simp only [List.getElem_toArray]
  try simp only [List.getElem_cons_succ]
  try simp only [List.getElem_cons_zero]
  try simp only [List.setIfInBounds_toArray]
  try simp only [List.set_cons_succ, List.set_cons_zero]
  refine wpAnyH_ready (rs := [3]) (by kernel_rfl) (by simp) ?_
  refine AllReadyH.cons rfl (fun K hK => ?_) AllReadyH.nil
  go_simp
  refine (dnum_any x (by omega) _).mono ?_
  rintro e w0 ⟨rfl, hB0⟩
  refine hK.out _ _ (Below.trans hHeld (hB0.mono hHeld.size)) (fun hHeld => ?_)
  clear hK K
  try simp only [Act.put]
  try simp only [List.getElem_toArray]
  try simp only [List.getElem_cons_succ]
  try simp only [List.getElem_cons_zero]
  try simp only [List.setIfInBounds_toArray]
  try simp only [List.set_cons_succ, List.set_cons_zero]
  refine wpAnyH_take (i := 4) (v := .string ⟨(A1).toArray⟩) rfl (by kernel_rfl) (by kernel_rfl) (by kernel_rfl) (fun _ _ _ h => h) (Or.inl ⟨by kernel_rfl, fun w1 hSw => by clear hHeld; obtain ⟨c0, c1, c2, c3, c4, c5, c6, c7, c8, c9⟩ := HC.out _ hSw; clear hSw; go_simp⟩) hHeld ?_
  try simp only [Act.put]
  try simp only [List.getElem_toArray]
  try simp only [List.getElem_cons_succ]
  try simp only [List.getElem_cons_zero]
  try simp only [List.setIfInBounds_toArray]
  try simp only [List.set_cons_succ, List.set_cons_zero]
  refine wpAnyH_ready (rs := [8]) (by kernel_rfl) (by simp) ?_
  refine AllReadyH.cons rfl (fun K hK => ?_) AllReadyH.nil
  go_simp
  refine (dnum_any y (by omega) _).mono ?_
  rintro e w1 ⟨rfl, hB1⟩
  refine hK.out _ _ (Below.trans hHeld (hB1.mono hHeld.size)) (fun hHeld => ?_)
  clear hK K
  try simp only [Act.put]
  try simp only [List.getElem_toArray]
  try simp only [List.getElem_cons_succ]
  try simp only [List.getElem_cons_zero]
  try simp only [List.setIfInBounds_toArray]
  try simp only [List.set_cons_succ, List.set_cons_zero]
  refine wpAnyH_take (i := 9) (v := .string ⟨(A2).toArray⟩) rfl (by kernel_rfl) (by kernel_rfl) (by kernel_rfl) (fun _ _ _ h => h) (Or.inl ⟨by kernel_rfl, fun w1 hSw => by clear hHeld; obtain ⟨c0, c1, c2, c3, c4, c5, c6, c7, c8, c9⟩ := HC.out _ hSw; clear hSw; go_simp⟩) hHeld ?_
  try simp only [Act.put]
  try simp only [List.getElem_toArray]
  try simp only [List.getElem_cons_succ]
  try simp only [List.getElem_cons_zero]
  try simp only [List.setIfInBounds_toArray]
  try simp only [List.set_cons_succ, List.set_cons_zero]
  refine wpAnyH_ready (rs := [13]) (by kernel_rfl) (by simp) ?_
  refine AllReadyH.cons rfl (fun K hK => ?_) AllReadyH.nil
  go_simp
  refine (HQb.out _).mono ?_
  rintro e w2 ⟨rfl, hB2⟩
  refine hK.out _ _ (Below.trans hHeld (hB2.mono hHeld.size)) (fun hHeld => ?_)
  clear hK K
  try simp only [Act.put]
  try simp only [List.getElem_toArray]
  try simp only [List.getElem_cons_succ]
  try simp only [List.getElem_cons_zero]
  try simp only [List.setIfInBounds_toArray]
  try simp only [List.set_cons_succ, List.set_cons_zero]
  refine wpAnyH_take (i := 14) (v := .string ⟨(A3).toArray⟩) rfl (by kernel_rfl) (by kernel_rfl) (by kernel_rfl) (fun _ _ _ h => h) (Or.inl ⟨by kernel_rfl, fun w1 hSw => by clear hHeld; obtain ⟨c0, c1, c2, c3, c4, c5, c6, c7, c8, c9⟩ := HC.out _ hSw; clear hSw; go_simp⟩) hHeld ?_
  try simp only [Act.put]
  try simp only [List.getElem_toArray]
  try simp only [List.getElem_cons_succ]
  try simp only [List.getElem_cons_zero]
  try simp only [List.setIfInBounds_toArray]
  try simp only [List.set_cons_succ, List.set_cons_zero]
  refine wpAnyH_take (i := 15) (v := .string ⟨(A3).toArray⟩) rfl (by kernel_rfl) (by kernel_rfl) (by kernel_rfl) (fun _ _ _ h => h) (Or.inl ⟨by kernel_rfl, fun w1 hSw => by clear hHeld; obtain ⟨c0, c1, c2, c3, c4, c5, c6, c7, c8, c9⟩ := HC.out _ hSw; clear hSw; go_simp⟩) hHeld ?_
  try simp only [Act.put]
  try simp only [List.getElem_toArray]
  try simp only [List.getElem_cons_succ]
  try simp only [List.getElem_cons_zero]
  try simp only [List.setIfInBounds_toArray]
  try simp only [List.set_cons_succ, List.set_cons_zero]
  refine wpAnyH_done (by kernel_rfl) ?_ _
  have HBf := hide (HB0.out.trans (hHeld.mono HB0.out.size))
  clear hHeld
  go_wp2
  go_ret
  exact ⟨rfl, HBf.out⟩
theorem layT42 (l : List ByteArray) (h : ∀ t ∈ l, t.size ≤ 32) : (Rc.layT l).length ≤ l.length * 42 := by
  induction l with
  | nil => simp [Rc.layT]
  | cons a l ih =>
    have h1 := h a (by simp)
    have h2 := ih (fun t ht => h t (by simp [ht]))
    have h3 := Pk.enc_ten (n := a.size) (by omega)
    simp only [Rc.layT, List.flatMap_cons, List.length_append, List.length_cons, Array.length_toList, ByteArray.size_data] at h2 ⊢
    omega
theorem layTst {l : List ByteArray} {i : Nat} (h : i < l.length) : Rc.layT (l.take (i + 1)) = Rc.layT (l.take i) ++ (Pk.enc (l[i]!).size ++ (l[i]!).data.toList) := by
  rw [← List.take_append_getElem h, getElem!_pos l i h]; simp only [Rc.layT, List.flatMap_append, List.flatMap_cons, List.flatMap_nil, List.append_nil]
end Go.Proofs.Ytjabnddjahhgoaa

namespace Go.Proofs.Ytjabnddjahhgoaa
open Go.RowKit
open Rc (L V Ch)

set_option maxHeartbeats 4000000 in
set_option maxRecDepth 8000 in
theorem rput4_any {x rb : Nat} {n jo sl li rc : Int} {pr : ByteArray} {tx : List ByteArray} (hx : x ≤ 1099511627776) (hl1 : 1 ≤ tx.length) (hl : tx.length ≤ 8) (hs : ∀ t ∈ tx, t.size ≤ 32) (t : Value) (w : World) (hT : Tx w t tx) : Calls Try.prog 16 #[.agg (chC ⟨4, n, jo, (x : Int), sl, li, rc, rb, pr, tx⟩ t)] w fun e w' => e = .returned (.string ⟨(Pk.enc 4 ++ (Pk.enc x ++ Pk.enc tx.length) ++ Rc.layT tx).toArray⟩) ∧ Below w.heap.size w w' := by
  obtain ⟨tp, tc, rfl, hp⟩ := id hT
  obtain ⟨tb, to_, rfl, _, _⟩ := hp hl1
  obtain ⟨RES, hRES⟩ : ∃ R, R = (⟨(Pk.enc 4 ++ (Pk.enc x ++ Pk.enc tx.length) ++ Rc.layT tx).toArray⟩ : ByteArray) := ⟨_, rfl⟩
  rw [← hRES]
  have HRES := hide hRES
  clear hRES
  have HT := hide (fun V (hV : Below (w.alloc (.cells (chC ⟨4, n, jo, (x : Int), sl, li, rc, rb, pr, tx⟩ (.slice (some ⟨tb, to_, none⟩) tx.length tc)) 29)).heap.size (w.alloc (.cells (chC ⟨4, n, jo, (x : Int), sl, li, rc, rb, pr, tx⟩ (.slice (some ⟨tb, to_, none⟩) tx.length tc)) 29)) V) => (hT.below (below_alloc w _) (Nat.le_refl _)).below hV (Nat.le_refl _))
  have hs' : ∀ i, (Rc.layT (tx.take i)).length ≤ 336 := fun i => by
    have h1 := layT42 (tx.take i) (fun t ht => hs t (List.mem_of_mem_take ht))
    have h2 : (tx.take i).length ≤ 8 := by rw [List.length_take]; omega
    omega
  have HC : Hid (∀ V, Below (w.alloc (.cells (chC ⟨4, n, jo, (x : Int), sl, li, rc, rb, pr, tx⟩ (.slice (some ⟨tb, to_, none⟩) tx.length tc)) 29)).heap.size (w.alloc (.cells (chC ⟨4, n, jo, (x : Int), sl, li, rc, rb, pr, tx⟩ (.slice (some ⟨tb, to_, none⟩) tx.length tc)) 29)) V → _) := hide (fun V hV => (Ca.block (heap_alloc_new w (.cells (chC ⟨4, n, jo, (x : Int), sl, li, rc, rb, pr, tx⟩ (.slice (some ⟨tb, to_, none⟩) tx.length tc)) 29) : Ca _ w.heap.size ⟨4, n, jo, (x : Int), sl, li, rc, rb, pr, tx⟩ (.slice (some ⟨tb, to_, none⟩) tx.length tc)) (hV.block _ (by rw [World.size_alloc]; omega))).ten)
  have HB0 : Hid (Below w.heap.size w (w.alloc (.cells (chC ⟨4, n, jo, (x : Int), sl, li, rc, rb, pr, tx⟩ (.slice (some ⟨tb, to_, none⟩) tx.length tc)) 29))) := hide (below_alloc w _)
  have HSz := hide hs
  have e4 := Pk.enc_ten (n := 4) (by decide)
  have ex := Pk.enc_ten (n := x) (by omega)
  have en := Pk.enc_ten (n := tx.length) (by omega)
  obtain ⟨A1, hA1⟩ : ∃ A, A = Pk.enc x ++ Pk.enc tx.length := ⟨_, rfl⟩
  have lA1 : A1.length ≤ 20 := by rw [hA1, List.length_append]; omega
  have addA1 : ∀ W, (Op.stringOp .add ⟨(Pk.enc x).toArray⟩ ⟨(Pk.enc tx.length).toArray⟩).run Try.prog W = .ok (.string ⟨A1.toArray⟩) W := fun W => by rw [hA1]; exact addS (by omega) W
  obtain ⟨A2, hA2⟩ : ∃ A, A = Pk.enc 4 ++ A1 := ⟨_, rfl⟩
  have lA2 : A2.length ≤ 30 := by rw [hA2, List.length_append]; omega
  have addA2 : ∀ W, (Op.stringOp .add ⟨(Pk.enc 4).toArray⟩ ⟨A1.toArray⟩).run Try.prog W = .ok (.string ⟨A2.toArray⟩) W := fun W => by rw [hA2]; exact addS (by omega) W
  rw [← hA1, ← hA2] at HRES
  clear hA1 hA2
  clear hT hs hp
  unfold chC at HC HB0 HT ⊢
  go_enter Try.func16, Try.ntmps16
  go_wp2_with fail
  refine (dnum_any 4 (by decide) _).mono ?_
  rintro e w1 ⟨rfl, hB1⟩
  have HB1 := hide hB1
  clear hB1
  obtain ⟨c0, c1, c2, c3, c4, c5, c6, c7, c8, c9⟩ := HC.out _ HB1.out
  generalize w.alloc (.cells #[.int .i64 4, .int .i64 n, .int .i64 jo, .int .i64 (x : Int), .int .i64 sl, .int .i64 li, .int .i64 rc, .int .u64 (rb : Int), .string pr, .slice (some ⟨tb, to_, none⟩) tx.length tc] 29) = W0 at *
  go_wp2_with fail
  refine wp_region_held_drew (S := fun w' => Below W0.heap.size W0 w') (by kernel_rfl) (Below.trans HB1.out ⟨rfl, rfl, rfl, Nat.le_refl _, fun _ _ => rfl⟩) (fun hHeld => ?_)
  refine wpAnyH_take (i := 0) (v := .string ⟨(Pk.enc 4).toArray⟩) rfl (by kernel_rfl) (by kernel_rfl) (by kernel_rfl) (fun _ _ _ h => h) (Or.inl ⟨by kernel_rfl, fun w1 hSw => by clear hHeld; obtain ⟨c0, c1, c2, c3, c4, c5, c6, c7, c8, c9⟩ := HC.out _ hSw; clear hSw; go_simp⟩) hHeld ?_
  try simp only [Act.put]
  try simp only [List.getElem_toArray]
  try simp only [List.getElem_cons_succ]
  try simp only [List.getElem_cons_zero]
  try simp only [List.setIfInBounds_toArray]
  try simp only [List.set_cons_succ, List.set_cons_zero]
  refine wpAnyH_take (i := 1) (v := .pointer (some ⟨w.heap.size, 3, none⟩)) rfl (by kernel_rfl) (by kernel_rfl) (by kernel_rfl) (fun _ _ _ h => h) (Or.inl ⟨by kernel_rfl, fun w1 hSw => by clear hHeld; obtain ⟨c0, c1, c2, c3, c4, c5, c6, c7, c8, c9⟩ := HC.out _ hSw; clear hSw; go_simp⟩) hHeld ?_
  try simp only [Act.put]
  try simp only [List.getElem_toArray]
  try simp only [List.getElem_cons_succ]
  try simp only [List.getElem_cons_zero]
  try simp only [List.setIfInBounds_toArray]
  try simp only [List.set_cons_succ, List.set_cons_zero]
  refine wpAnyH_take (i := 2) (v := .int .i64 (x : Int)) rfl (by kernel_rfl) (by kernel_rfl) (by kernel_rfl) (fun _ _ _ h => h) (Or.inl ⟨by kernel_rfl, fun w1 hSw => by clear hHeld; obtain ⟨c0, c1, c2, c3, c4, c5, c6, c7, c8, c9⟩ := HC.out _ hSw; clear hSw; go_simp⟩) hHeld ?_
  try simp only [Act.put]
  try simp only [List.getElem_toArray]
  try simp only [List.getElem_cons_succ]
  try simp only [List.getElem_cons_zero]
  try simp only [List.setIfInBounds_toArray]
  try simp only [List.set_cons_succ, List.set_cons_zero]
  refine wpAnyH_take (i := 4) (v := .pointer (some ⟨w.heap.size, 9, none⟩)) rfl (by kernel_rfl) (by kernel_rfl) (by kernel_rfl) (fun _ _ _ h => h) (Or.inl ⟨by kernel_rfl, fun w1 hSw => by clear hHeld; obtain ⟨c0, c1, c2, c3, c4, c5, c6, c7, c8, c9⟩ := HC.out _ hSw; clear hSw; go_simp⟩) hHeld ?_
  try simp only [Act.put]
  try simp only [List.getElem_toArray]
  try simp only [List.getElem_cons_succ]
  try simp only [List.getElem_cons_zero]
  try simp only [List.setIfInBounds_toArray]
  try simp only [List.set_cons_succ, List.set_cons_zero]
  refine wpAnyH_take (i := 5) (v := .slice (some ⟨tb, to_, none⟩) tx.length tc) rfl (by kernel_rfl) (by kernel_rfl) (by kernel_rfl) (fun _ _ _ h => h) (Or.inl ⟨by kernel_rfl, fun w1 hSw => by clear hHeld; obtain ⟨c0, c1, c2, c3, c4, c5, c6, c7, c8, c9⟩ := HC.out _ hSw; clear hSw; go_simp⟩) hHeld ?_
  try simp only [Act.put]
  try simp only [List.getElem_toArray]
  try simp only [List.getElem_cons_succ]
  try simp only [List.getElem_cons_zero]
  try simp only [List.setIfInBounds_toArray]
  try simp only [List.set_cons_succ, List.set_cons_zero]
  refine wpAnyH_take (i := 6) (v := .int .i64 (tx.length : Int)) rfl (by kernel_rfl) (by kernel_rfl) (by kernel_rfl) (fun _ _ _ h => h) (Or.inl ⟨by kernel_rfl, fun w1 hSw => by clear hHeld; obtain ⟨c0, c1, c2, c3, c4, c5, c6, c7, c8, c9⟩ := HC.out _ hSw; clear hSw; go_simp⟩) hHeld ?_
  try simp only [Act.put]
  try simp only [List.getElem_toArray]
  try simp only [List.getElem_cons_succ]
  try simp only [List.getElem_cons_zero]
  try simp only [List.setIfInBounds_toArray]
  try simp only [List.set_cons_succ, List.set_cons_zero]
  refine wpAnyH_ready (rs := [3]) (by kernel_rfl) (by simp) ?_
  refine AllReadyH.cons rfl (fun K hK => ?_) AllReadyH.nil
  go_simp
  refine (dnum_any x (by omega) _).mono ?_
  rintro e w0 ⟨rfl, hB0⟩
  refine hK.out _ _ (Below.trans hHeld (hB0.mono hHeld.size)) (fun hHeld => ?_)
  clear hK K
  try simp only [Act.put]
  try simp only [List.getElem_toArray]
  try simp only [List.getElem_cons_succ]
  try simp only [List.getElem_cons_zero]
  try simp only [List.setIfInBounds_toArray]
  try simp only [List.set_cons_succ, List.set_cons_zero]
  refine wpAnyH_ready (rs := [7]) (by kernel_rfl) (by simp) ?_
  refine AllReadyH.cons rfl (fun K hK => ?_) AllReadyH.nil
  go_simp
  refine (dnum_any tx.length (by omega) _).mono ?_
  rintro e w1 ⟨rfl, hB1⟩
  refine hK.out _ _ (Below.trans hHeld (hB1.mono hHeld.size)) (fun hHeld => ?_)
  clear hK K
  try simp only [Act.put]
  try simp only [List.getElem_toArray]
  try simp only [List.getElem_cons_succ]
  try simp only [List.getElem_cons_zero]
  try simp only [List.setIfInBounds_toArray]
  try simp only [List.set_cons_succ, List.set_cons_zero]
  refine wpAnyH_take (i := 8) (v := .string ⟨(A1).toArray⟩) rfl (by kernel_rfl) (by kernel_rfl) (by kernel_rfl) (fun _ _ _ h => h) (Or.inl ⟨by kernel_rfl, fun w1 hSw => by clear hHeld; obtain ⟨c0, c1, c2, c3, c4, c5, c6, c7, c8, c9⟩ := HC.out _ hSw; clear hSw; go_simp⟩) hHeld ?_
  try simp only [Act.put]
  try simp only [List.getElem_toArray]
  try simp only [List.getElem_cons_succ]
  try simp only [List.getElem_cons_zero]
  try simp only [List.setIfInBounds_toArray]
  try simp only [List.set_cons_succ, List.set_cons_zero]
  refine wpAnyH_take (i := 9) (v := .string ⟨(A2).toArray⟩) rfl (by kernel_rfl) (by kernel_rfl) (by kernel_rfl) (fun _ _ _ h => h) (Or.inl ⟨by kernel_rfl, fun w1 hSw => by clear hHeld; obtain ⟨c0, c1, c2, c3, c4, c5, c6, c7, c8, c9⟩ := HC.out _ hSw; clear hSw; go_simp⟩) hHeld ?_
  try simp only [Act.put]
  try simp only [List.getElem_toArray]
  try simp only [List.getElem_cons_succ]
  try simp only [List.getElem_cons_zero]
  try simp only [List.setIfInBounds_toArray]
  try simp only [List.set_cons_succ, List.set_cons_zero]
  refine wpAnyH_take (i := 10) (v := .string ⟨(A2).toArray⟩) rfl (by kernel_rfl) (by kernel_rfl) (by kernel_rfl) (fun _ _ _ h => h) (Or.inl ⟨by kernel_rfl, fun w1 hSw => by clear hHeld; obtain ⟨c0, c1, c2, c3, c4, c5, c6, c7, c8, c9⟩ := HC.out _ hSw; clear hSw; go_simp⟩) hHeld ?_
  try simp only [Act.put]
  try simp only [List.getElem_toArray]
  try simp only [List.getElem_cons_succ]
  try simp only [List.getElem_cons_zero]
  try simp only [List.setIfInBounds_toArray]
  try simp only [List.set_cons_succ, List.set_cons_zero]
  refine wpAnyH_done (by kernel_rfl) ?_ _
  have HB2 := hide hHeld
  clear hHeld c0 c1 c2 c3 c4 c5 c6 c7 c8 c9
  go_wp2_with fail
  go_loopw [3, 4] (fun a s wr => ∃ (i : Nat) (A : List UInt8), i ≤ tx.length ∧ a = .string ⟨A.toArray⟩ ∧ s = .int .i64 (i : Int) ∧ Hid (A = A2 ++ Rc.layT (tx.take i)) ∧ Hid (Below W0.heap.size W0 wr)) (fun _ s _ => tx.length - (intOf s).toNat)
  case atStart => exact ⟨0, _, Nat.zero_le _, rfl, rfl, hide (by simp [Rc.layT]), HB2⟩
  case round =>
    clear HB2
    obtain ⟨i, A, hi, rfl, rfl, HA, HB⟩ := hrel
    obtain ⟨c0, c1, c2, c3, c4, c5, c6, c7, c8, c9⟩ := HC.out _ HB.out
    by_cases hii : i < tx.length
    · have hik : (i : Int) < (tx.length : Int) := by omega
      obtain ⟨tp', tc', htv, hp⟩ := HT.out _ HB.out
      have htp : some (⟨tb, to_, none⟩ : Addr) = tp' := by injection htv
      obtain ⟨tb', to', htq, hlt, hc⟩ := hp (by omega)
      rw [← htp] at htq
      injection htq with htq
      have hq1 : tb = tb' := by injection htq
      have hq2 : to_ = to' := by injection htq
      clear htq
      have ci : wr.cell? ⟨tb, to_ + i, none⟩ = some (.string tx[i]!) := by rw [hq1, hq2]; exact hc i hii
      rw [← hq1] at hlt
      clear hp htp htv hq1 hq2
      have h32 : (tx[i]!).size ≤ 32 := by rw [getElem!_pos tx i hii]; exact HSz.out _ (List.getElem_mem hii)
      have HSt := hide (layTst hii)
      have hAl : A.length ≤ 400 := by
        have h1 := hs' i
        rw [HA.out, List.length_append]; omega
      have ey := Pk.enc_ten (n := (tx[i]!).size) (by omega)
      have hsz : (tx[i]!).data.toList.length = (tx[i]!).size := by simp
      have HDt := hide (dtext_any (tx[i]!) (by omega))
      obtain ⟨T, hT⟩ : ∃ T, Pk.enc (tx[i]!).size ++ (tx[i]!).data.toList = T := ⟨_, rfl⟩
      have hTl : T.length ≤ 50 := by rw [← hT, List.length_append]; omega
      rw [hT] at HDt HSt
      have hadd3 := fun W => addS (a := A) (b := T) (by omega) W
      generalize tx[i]! = tt at *
      clear hc hT
      go_wp2_with fail
      refine (HDt.out _).mono ?_
      rintro e w5 ⟨rfl, hB5⟩
      have HB5 := hide (HB.out.trans (hB5.mono HB.out.size))
      clear hB5
      go_wp2_with fail
      go_roundw
      case rel => exact ⟨i + 1, _, by omega, rfl, by go_num, hide (by rw [HSt.out, HA.out, List.append_assoc _ (Rc.layT _)]), HB5⟩
      case measure => simp only [intOf]; omega
    · have hik : ¬ (i : Int) < (tx.length : Int) := by omega
      have he : tx.take i = tx := List.take_of_length_le (by omega)
      have HA2 := hide HA.out
      rw [he] at HA2
      have HBf := hide (HB0.out.trans (HB.out.mono HB0.out.size))
      clear HA
      go_wp2
      go_ret
      exact ⟨by rw [HRES.out, ← HA2.out]; rfl, HBf.out⟩
end Go.Proofs.Ytjabnddjahhgoaa

namespace Go.Proofs.Ytjabnddjahhgoaa
open Go.RowKit
open Rc (L V Ch)

/-- the document's put: a good change's bytes -/
theorem rput_any (c : Ch) (hc : Rc.check c = 0) (hrb : c.rb < 18446744073709551616) (t : Value) (w : World) (hT : Tx w t c.tx) : Calls Try.prog 16 #[.agg (chC c t)] w fun e w' => e = .returned (.string ⟨(Rc.bytes c).toArray⟩) ∧ Below w.heap.size w w' := by
  obtain ⟨⟨k1, k2⟩, hm, _⟩ := (Rc.check_iff c).1 hc
  clear hc
  obtain ⟨k, n, jo, ba, sl, li, rc, rb, pr, tx⟩ := c
  simp only at k1 k2 hm hrb hT
  have hk : k = 1 ∨ k = 2 ∨ k = 3 ∨ k = 4 ∨ k = 5 ∨ k = 6 := by omega
  rcases hk with rfl | rfl | rfl | rfl | rfl | rfl
  · have h1 := bndM (hm .N (by simp [Rc.letters]))
    simp only [Rc.least, Rc.most, Rc.sz, Rc.get] at h1
    obtain ⟨x, rfl⟩ : ∃ x : Nat, n = (x : Int) := ⟨n.toNat, by omega⟩
    have e : Rc.bytes ⟨1, (x : Int), jo, ba, sl, li, rc, rb, pr, tx⟩ = Pk.enc 1 ++ Pk.enc x := by simp [Rc.bytes, Rc.body, Rc.letters, Rc.lay, Rc.get]
    rw [e]
    exact rput1_any (by omega) t w
  · have h1 := bndM (hm .J (by simp [Rc.letters]))
    have h2 := bndM (hm .P (by simp [Rc.letters]))
    simp only [Rc.least, Rc.most, Rc.sz, Rc.get] at h1 h2
    obtain ⟨x, rfl⟩ : ∃ x : Nat, jo = (x : Int) := ⟨jo.toNat, by omega⟩
    have e : Rc.bytes ⟨2, n, (x : Int), ba, sl, li, rc, rb, pr, tx⟩ = Pk.enc 2 ++ Pk.enc x ++ (Pk.enc pr.size ++ pr.data.toList) := by simp [Rc.bytes, Rc.body, Rc.letters, Rc.lay, Rc.get]
    rw [e]
    exact rput2_any (by omega) (by omega) t w
  · have h1 := bndM (hm .J (by simp [Rc.letters]))
    have h2 := bndM (hm .B (by simp [Rc.letters]))
    have h3 := bndM (hm .S (by simp [Rc.letters]))
    have h4 := bndM (hm .F (by simp [Rc.letters]))
    simp only [Rc.least, Rc.most, Rc.sz, Rc.get] at h1 h2 h3 h4
    obtain ⟨x, rfl⟩ : ∃ x : Nat, jo = (x : Int) := ⟨jo.toNat, by omega⟩
    obtain ⟨y, rfl⟩ : ∃ x : Nat, ba = (x : Int) := ⟨ba.toNat, by omega⟩
    obtain ⟨z, rfl⟩ : ∃ x : Nat, sl = (x : Int) := ⟨sl.toNat, by omega⟩
    obtain ⟨u, rfl⟩ : ∃ x : Nat, li = (x : Int) := ⟨li.toNat, by omega⟩
    have e : Rc.bytes ⟨3, n, (x : Int), (y : Int), (z : Int), (u : Int), rc, rb, pr, tx⟩ = Pk.enc 3 ++ Pk.enc x ++ Pk.enc y ++ Pk.enc z ++ Pk.enc u := by simp [Rc.bytes, Rc.body, Rc.letters, Rc.lay, Rc.get]
    rw [e]
    exact rput3_any (by omega) (by omega) (by omega) (by omega) t w
  · have h1 := bndM (hm .B (by simp [Rc.letters]))
    have h2 := bndM (hm .T (by simp [Rc.letters]))
    have h3 := bndT (hm .T (by simp [Rc.letters]))
    simp only [Rc.least, Rc.most, Rc.sz, Rc.get] at h1 h2 h3
    obtain ⟨x, rfl⟩ : ∃ x : Nat, ba = (x : Int) := ⟨ba.toNat, by omega⟩
    have e : Rc.bytes ⟨4, n, jo, (x : Int), sl, li, rc, rb, pr, tx⟩ = Pk.enc 4 ++ (Pk.enc x ++ Pk.enc tx.length) ++ Rc.layT tx := by simp [Rc.bytes, Rc.body, Rc.letters, Rc.lay, Rc.get]
    rw [e]
    exact rput4_any (by omega) (by omega) (by omega) h3 t w hT
  · have h1 := bndM (hm .B (by simp [Rc.letters]))
    simp only [Rc.least, Rc.most, Rc.sz, Rc.get] at h1
    obtain ⟨x, rfl⟩ : ∃ x : Nat, ba = (x : Int) := ⟨ba.toNat, by omega⟩
    have e : Rc.bytes ⟨5, n, jo, (x : Int), sl, li, rc, rb, pr, tx⟩ = Pk.enc 5 ++ Pk.enc x := by simp [Rc.bytes, Rc.body, Rc.letters, Rc.lay, Rc.get]
    rw [e]
    exact rput5_any (by omega) t w
  · have h1 := bndM (hm .B (by simp [Rc.letters]))
    have h2 := bndM (hm .R (by simp [Rc.letters]))
    simp only [Rc.least, Rc.most, Rc.sz, Rc.get] at h1 h2
    obtain ⟨x, rfl⟩ : ∃ x : Nat, ba = (x : Int) := ⟨ba.toNat, by omega⟩
    obtain ⟨y, rfl⟩ : ∃ x : Nat, rc = (x : Int) := ⟨rc.toNat, by omega⟩
    have e : Rc.bytes ⟨6, n, jo, (x : Int), sl, li, (y : Int), rb, pr, tx⟩ = Pk.enc 6 ++ Pk.enc x ++ Pk.enc y ++ Pk.big8 rb := by simp [Rc.bytes, Rc.body, Rc.letters, Rc.lay, Rc.get]
    rw [e]
    exact rput6_any (by omega) (by omega) hrb t w
/-- a good change is short -/
theorem bytes_short (c : Ch) (hc : Rc.check c = 0) : (Rc.bytes c).length ≤ 1100 := by
  obtain ⟨⟨k1, k2⟩, hm, _⟩ := (Rc.check_iff c).1 hc
  clear hc
  obtain ⟨k, n, jo, ba, sl, li, rc, rb, pr, tx⟩ := c
  simp only at k1 k2 hm
  have ten : ∀ x : Int, x ≤ 1099511627776 → (Pk.enc x.toNat).length ≤ 10 := fun x hx => Pk.enc_ten (by omega)
  have hk : k = 1 ∨ k = 2 ∨ k = 3 ∨ k = 4 ∨ k = 5 ∨ k = 6 := by omega
  have t1 := Pk.enc_ten (n := 1) (by decide)
  have t2 := Pk.enc_ten (n := 2) (by decide)
  have t3 := Pk.enc_ten (n := 3) (by decide)
  have t4 := Pk.enc_ten (n := 4) (by decide)
  have t5 := Pk.enc_ten (n := 5) (by decide)
  have t6 := Pk.enc_ten (n := 6) (by decide)
  rcases hk with rfl | rfl | rfl | rfl | rfl | rfl
  · have h1 := bndM (hm .N (by simp [Rc.letters]))
    simp only [Rc.least, Rc.most, Rc.sz, Rc.get] at h1
    have a1 := ten n (by omega)
    simp [Rc.bytes, Rc.body, Rc.letters, Rc.lay, Rc.get]; omega
  · have h1 := bndM (hm .J (by simp [Rc.letters]))
    have h2 := bndM (hm .P (by simp [Rc.letters]))
    simp only [Rc.least, Rc.most, Rc.sz, Rc.get] at h1 h2
    have a1 := ten jo (by omega)
    have a2 := Pk.enc_ten (n := pr.size) (by omega)
    simp [Rc.bytes, Rc.body, Rc.letters, Rc.lay, Rc.get]; omega
  · have h1 := bndM (hm .J (by simp [Rc.letters]))
    have h2 := bndM (hm .B (by simp [Rc.letters]))
    have h3 := bndM (hm .S (by simp [Rc.letters]))
    have h4 := bndM (hm .F (by simp [Rc.letters]))
    simp only [Rc.least, Rc.most, Rc.sz, Rc.get] at h1 h2 h3 h4
    have a1 := ten jo (by omega)
    have a2 := ten ba (by omega)
    have a3 := ten sl (by omega)
    have a4 := ten li (by omega)
    simp [Rc.bytes, Rc.body, Rc.letters, Rc.lay, Rc.get]; omega
  · have h1 := bndM (hm .B (by simp [Rc.letters]))
    have h2 := bndM (hm .T (by simp [Rc.letters]))
    have h3 := bndT (hm .T (by simp [Rc.letters]))
    simp only [Rc.least, Rc.most, Rc.sz, Rc.get] at h1 h2 h3
    have a1 := ten ba (by omega)
    have a2 := Pk.enc_ten (n := tx.length) (by omega)
    have a3 := layT42 tx h3
    simp [Rc.bytes, Rc.body, Rc.letters, Rc.lay, Rc.get]; omega
  · have h1 := bndM (hm .B (by simp [Rc.letters]))
    simp only [Rc.least, Rc.most, Rc.sz, Rc.get] at h1
    have a1 := ten ba (by omega)
    simp [Rc.bytes, Rc.body, Rc.letters, Rc.lay, Rc.get]; omega
  · have h1 := bndM (hm .B (by simp [Rc.letters]))
    have h2 := bndM (hm .R (by simp [Rc.letters]))
    simp only [Rc.least, Rc.most, Rc.sz, Rc.get] at h1 h2
    have a1 := ten ba (by omega)
    have a2 := ten rc (by omega)
    have a3 : (Pk.big8 rb).length = 8 := rfl
    simp [Rc.bytes, Rc.body, Rc.letters, Rc.lay, Rc.get]; omega
end Go.Proofs.Ytjabnddjahhgoaa
