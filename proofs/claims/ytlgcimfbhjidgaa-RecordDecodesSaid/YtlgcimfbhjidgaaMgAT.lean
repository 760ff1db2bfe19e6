import Derived.Test.YtlgcimfbhjidgaaMgAS

section
namespace Go.Proofs.Ytlgcimfbhjidgaa
open Go.RowKit
open Rc (L V Ch)

set_option maxHeartbeats 4000000 in
set_option maxRecDepth 8000 in
theorem get_0 {w : World} {G p f : Nat} {b : ByteArray} (h : RR w G 0 b p f (aD p f)) (hp : p ≤ b.size) (hb : b.size ≤ 140737488351232) (hk : (Wr.rdN b 6 p f).1 = 0) : Calls Try.prog 11 #[.pointer (some ⟨G, 0, none⟩)] w (GetP w G b (Rc.dget b p f)) := by
  have hG := h.lt
  have HNu := hide (fun (V : World) (most p f : Nat) (hV : RR V G 0 b p f (aD p f)) (hp : p ≤ b.size) => dnumR (most := most) hV hp hb)
  have HTx := hide (fun (V : World) (most p f : Nat) (hm : most ≤ 9223372036854775807) (hV : RR V G 0 b p f (aD p f)) (hp : p ≤ b.size) => dtextR (most := most) hm hV hp hb)
  have HBi := hide (fun (V : World) (p f : Nat) (hV : RR V G 0 b p f (aD p f)) (hp : p ≤ b.size) => dbitsR hV hp hb)
  have HLi := hide (fun (V : World) (most p f : Nat) (hm : most ≤ 9223372036854775807) (hV : RR V G 0 b p f (aD p f)) (hp : p ≤ b.size) => dlistR (most := most) hm hV hp hb)
  have hle1 := (Wr.rdN_le b 6 p f hp).2
  have h0 := HNu.out (w.alloc (.cells (chC (Rc.zC 0) (.slice none 0 0)) 32)) 6 p f (h.keep (Below.heap_alloc w _ _ hG)) hp
  rw [hk] at h0
  have HD : Hid (Rc.dget b p f = Rc.dgK b 0 (Wr.rdN b 6 p f).2.1 (Wr.rdN b 6 p f).2.2) := hide (by unfold Rc.dget; rw [hk])
  have H0 := hide h0
  clear h0 h
  generalize (Wr.rdN b 6 p f).2.1 = p1 at *
  generalize (Wr.rdN b 6 p f).2.2 = f1 at *
  generalize Rc.dget b p f = D at *
  clear hk
  have HD2 : Hid (D = (Rc.zC ((0 : Nat) : Int), p1, f1)) := hide (by rw [HD.out]; rfl)
  clear HD HNu HTx HBi HLi
  go_enter Try.func11, Try.ntmps11
  go_wp2_with fail
  refine H0.out.mono ?_
  rintro e w2 ⟨rfl, hR2, hW2⟩
  have HS : Hid (Gt w G w2.heap.size b p1 f1 (Rc.zC ((0 : Nat) : Int)) (.slice none 0 0) (w2.alloc (.cells (chC (Rc.zC ((0 : Nat) : Int)) (.slice none 0 0)) 32))) := hide (Gt.new hR2 hle1 hW2 hG _)

  clear hR2 hW2 H0
  have hca := HS.out.ca
  have hrz := HS.out.rz
  have hhC := HS.out.hC
  go_upto_region 27 with fail
  generalize w2.heap.size = C at *
  refine wp_region_list ?_
  refine wpList_load_row rfl 32 _ rfl C (by kernel_rfl) 32 (chC (Rc.zC ((0 : Nat) : Int)) (.slice none 0 0)) (0, 0) _ hca Try.underlying32 rfl (by kernel_rfl) ?_
  refine wpList_store_row rfl 32 _ _ rfl w.heap.size (chC (Rc.zC ((0 : Nat) : Int)) (.slice none 0 0)) (by kernel_rfl) (by kernel_rfl) 32 (chC (Rc.zC 0) (.slice none 0 0)) hrz (by kernel_rfl) rfl (chC_all _ _ (own_one HS.out.tx)) ?_

  go_wp2_with fail
  refine bodyPost_ret (results_ch rfl _ _ w.heap.size _ rfl (setRow_heap _ w.heap.size _ _ _ _ hrz) rfl) rfl ?_
  rw [HD2.out]
  exact HS.out.ret
set_option maxHeartbeats 4000000 in
set_option maxRecDepth 8000 in
theorem get_1 {w : World} {G p f : Nat} {b : ByteArray} (h : RR w G 0 b p f (aD p f)) (hp : p ≤ b.size) (hb : b.size ≤ 140737488351232) (hk : (Wr.rdN b 6 p f).1 = 1) : Calls Try.prog 11 #[.pointer (some ⟨G, 0, none⟩)] w (GetP w G b (Rc.dget b p f)) := by
  have hG := h.lt
  have HNu := hide (fun (V : World) (most p f : Nat) (hV : RR V G 0 b p f (aD p f)) (hp : p ≤ b.size) => dnumR (most := most) hV hp hb)
  have HTx := hide (fun (V : World) (most p f : Nat) (hm : most ≤ 9223372036854775807) (hV : RR V G 0 b p f (aD p f)) (hp : p ≤ b.size) => dtextR (most := most) hm hV hp hb)
  have HBi := hide (fun (V : World) (p f : Nat) (hV : RR V G 0 b p f (aD p f)) (hp : p ≤ b.size) => dbitsR hV hp hb)
  have HLi := hide (fun (V : World) (most p f : Nat) (hm : most ≤ 9223372036854775807) (hV : RR V G 0 b p f (aD p f)) (hp : p ≤ b.size) => dlistR (most := most) hm hV hp hb)
  have hle1 := (Wr.rdN_le b 6 p f hp).2
  have h0 := HNu.out (w.alloc (.cells (chC (Rc.zC 0) (.slice none 0 0)) 32)) 6 p f (h.keep (Below.heap_alloc w _ _ hG)) hp
  rw [hk] at h0
  have HD : Hid (Rc.dget b p f = Rc.dgK b 1 (Wr.rdN b 6 p f).2.1 (Wr.rdN b 6 p f).2.2) := hide (by unfold Rc.dget; rw [hk])
  have H0 := hide h0
  clear h0 h
  generalize (Wr.rdN b 6 p f).2.1 = p1 at *
  generalize (Wr.rdN b 6 p f).2.2 = f1 at *
  generalize Rc.dget b p f = D at *
  clear hk
  have HD2 : Hid (D = ({ Rc.zC ((1 : Nat) : Int) with n := (((Wr.rdN b 1099511627776 p1 f1).1 : Nat) : Int) }, (Wr.rdN b 1099511627776 p1 f1).2.1, (Wr.rdN b 1099511627776 p1 f1).2.2)) := hide (by rw [HD.out]; rfl)
  clear HD
  have HC2 := hide (fun (V : World) (hV : RR V G 0 b p1 f1 (aD p1 f1)) => HNu.out V 1099511627776 p1 f1 hV hle1)
  obtain ⟨hx2, hle2⟩ := Wr.rdN_le b 1099511627776 p1 f1 hle1
  generalize (Wr.rdN b 1099511627776 p1 f1).1 = x2 at *
  generalize (Wr.rdN b 1099511627776 p1 f1).2.1 = p2 at *
  generalize (Wr.rdN b 1099511627776 p1 f1).2.2 = f2 at *
  clear HNu HTx HBi HLi
  go_enter Try.func11, Try.ntmps11
  go_wp2_with fail
  refine H0.out.mono ?_
  rintro e w2 ⟨rfl, hR2, hW2⟩
  have HS : Hid (Gt w G w2.heap.size b p1 f1 (Rc.zC ((1 : Nat) : Int)) (.slice none 0 0) (w2.alloc (.cells (chC (Rc.zC ((1 : Nat) : Int)) (.slice none 0 0)) 32))) := hide (Gt.new hR2 hle1 hW2 hG _)

  clear hR2 hW2 H0
  go_wp2_with fail
  generalize w2.heap.size = C at *
  refine (HC2.out _ HS.out.rr).mono ?_
  rintro e w3 ⟨rfl, hR, hW⟩
  have HS3 := hide (HS.out.rd hR hW hle2)
  have hwr2 : IntKind.i64.wrap (x2 : Int) = (x2 : Int) := by rw [IntKind.wrap_i64]; omega
  obtain ⟨⟨c0, c1, c2, c3, c4, c5, c6, c7, c8, c9⟩, z⟩ := HS3.out.at
  simp only [Rc.zC] at c0 c1 c2 c3 c4 c5 c6 c7 c8 c9
  have HS4 : Hid (Gt w G C b p2 f2 ({ Rc.zC ((1 : Nat) : Int) with n := (x2 : Int) }) (.slice none 0 0) (w3.setCell ⟨C, 1, none⟩ (.int .i64 (x2 : Int)))) := hide (HS3.out.set (c' := { Rc.zC ((1 : Nat) : Int) with n := (x2 : Int) }) 1 _ rfl (HS3.out.own 1 _))
  clear hR hW HS HC2
  have hca := HS4.out.ca
  have hrz := HS4.out.rz
  have hhC := HS4.out.hC
  go_upto_region 27 with fail
  clear c0 c1 c2 c3 c4 c5 c6 c7 c8 c9 z HS3
  generalize w3.setCell ⟨C, 1, none⟩ (.int .i64 (x2 : Int)) = W at *
  refine wp_region_list ?_
  refine wpList_load_row rfl 32 _ rfl C (by kernel_rfl) 32 (chC ({ Rc.zC ((1 : Nat) : Int) with n := (x2 : Int) }) (.slice none 0 0)) (0, 0) _ hca Try.underlying32 rfl (by kernel_rfl) ?_
  refine wpList_store_row rfl 32 _ _ rfl w.heap.size (chC ({ Rc.zC ((1 : Nat) : Int) with n := (x2 : Int) }) (.slice none 0 0)) (by kernel_rfl) (by kernel_rfl) 32 (chC (Rc.zC 0) (.slice none 0 0)) hrz (by kernel_rfl) rfl (chC_all _ _ (own_one HS4.out.tx)) ?_

  go_wp2_with fail
  refine bodyPost_ret (results_ch rfl _ _ w.heap.size _ rfl (setRow_heap W w.heap.size _ _ _ _ hrz) rfl) rfl ?_
  rw [HD2.out]
  exact HS4.out.ret
set_option maxHeartbeats 4000000 in
set_option maxRecDepth 8000 in
theorem get_2 {w : World} {G p f : Nat} {b : ByteArray} (h : RR w G 0 b p f (aD p f)) (hp : p ≤ b.size) (hb : b.size ≤ 140737488351232) (hk : (Wr.rdN b 6 p f).1 = 2) : Calls Try.prog 11 #[.pointer (some ⟨G, 0, none⟩)] w (GetP w G b (Rc.dget b p f)) := by
  have hG := h.lt
  have HNu := hide (fun (V : World) (most p f : Nat) (hV : RR V G 0 b p f (aD p f)) (hp : p ≤ b.size) => dnumR (most := most) hV hp hb)
  have HTx := hide (fun (V : World) (most p f : Nat) (hm : most ≤ 9223372036854775807) (hV : RR V G 0 b p f (aD p f)) (hp : p ≤ b.size) => dtextR (most := most) hm hV hp hb)
  have HBi := hide (fun (V : World) (p f : Nat) (hV : RR V G 0 b p f (aD p f)) (hp : p ≤ b.size) => dbitsR hV hp hb)
  have HLi := hide (fun (V : World) (most p f : Nat) (hm : most ≤ 9223372036854775807) (hV : RR V G 0 b p f (aD p f)) (hp : p ≤ b.size) => dlistR (most := most) hm hV hp hb)
  have hle1 := (Wr.rdN_le b 6 p f hp).2
  have h0 := HNu.out (w.alloc (.cells (chC (Rc.zC 0) (.slice none 0 0)) 32)) 6 p f (h.keep (Below.heap_alloc w _ _ hG)) hp
  rw [hk] at h0
  have HD : Hid (Rc.dget b p f = Rc.dgK b 2 (Wr.rdN b 6 p f).2.1 (Wr.rdN b 6 p f).2.2) := hide (by unfold Rc.dget; rw [hk])
  have H0 := hide h0
  clear h0 h
  generalize (Wr.rdN b 6 p f).2.1 = p1 at *
  generalize (Wr.rdN b 6 p f).2.2 = f1 at *
  generalize Rc.dget b p f = D at *
  clear hk
  have HD2 : Hid (D = ({ Rc.zC ((2 : Nat) : Int) with jo := (((Wr.rdN b 8 p1 f1).1 : Nat) : Int), pr := (Wr.rdT b 1024 (Wr.rdN b 8 p1 f1).2.1 (Wr.rdN b 8 p1 f1).2.2).1 }, (Wr.rdT b 1024 (Wr.rdN b 8 p1 f1).2.1 (Wr.rdN b 8 p1 f1).2.2).2.1, (Wr.rdT b 1024 (Wr.rdN b 8 p1 f1).2.1 (Wr.rdN b 8 p1 f1).2.2).2.2)) := hide (by rw [HD.out]; rfl)
  clear HD
  have HC2 := hide (fun (V : World) (hV : RR V G 0 b p1 f1 (aD p1 f1)) => HNu.out V 8 p1 f1 hV hle1)
  obtain ⟨hx2, hle2⟩ := Wr.rdN_le b 8 p1 f1 hle1
  generalize (Wr.rdN b 8 p1 f1).1 = x2 at *
  generalize (Wr.rdN b 8 p1 f1).2.1 = p2 at *
  generalize (Wr.rdN b 8 p1 f1).2.2 = f2 at *
  have HC3 := hide (fun (V : World) (hV : RR V G 0 b p2 f2 (aD p2 f2)) => HTx.out V 1024 p2 f2 (by decide) hV hle2)
  have hle3 := rdT_leR b 1024 p2 f2 hle2
  generalize (Wr.rdT b 1024 p2 f2).1 = x3 at *
  generalize (Wr.rdT b 1024 p2 f2).2.1 = p3 at *
  generalize (Wr.rdT b 1024 p2 f2).2.2 = f3 at *
  clear HNu HTx HBi HLi
  go_enter Try.func11, Try.ntmps11
  go_wp2_with fail
  refine H0.out.mono ?_
  rintro e w2 ⟨rfl, hR2, hW2⟩
  have HS : Hid (Gt w G w2.heap.size b p1 f1 (Rc.zC ((2 : Nat) : Int)) (.slice none 0 0) (w2.alloc (.cells (chC (Rc.zC ((2 : Nat) : Int)) (.slice none 0 0)) 32))) := hide (Gt.new hR2 hle1 hW2 hG _)

  clear hR2 hW2 H0
  go_wp2_with fail
  generalize w2.heap.size = C at *
  refine (HC2.out _ HS.out.rr).mono ?_
  rintro e w3 ⟨rfl, hR, hW⟩
  have HS3 := hide (HS.out.rd hR hW hle2)
  have hwr2 : IntKind.i64.wrap (x2 : Int) = (x2 : Int) := by rw [IntKind.wrap_i64]; omega
  obtain ⟨⟨c0, c1, c2, c3, c4, c5, c6, c7, c8, c9⟩, z⟩ := HS3.out.at
  simp only [Rc.zC] at c0 c1 c2 c3 c4 c5 c6 c7 c8 c9
  have HS4 : Hid (Gt w G C b p2 f2 ({ Rc.zC ((2 : Nat) : Int) with jo := (x2 : Int) }) (.slice none 0 0) (w3.setCell ⟨C, 2, none⟩ (.int .i64 (x2 : Int)))) := hide (HS3.out.set (c' := { Rc.zC ((2 : Nat) : Int) with jo := (x2 : Int) }) 2 _ rfl (HS3.out.own 2 _))
  clear hR hW HS HC2
  go_wp2_with fail
  clear c0 c1 c2 c3 c4 c5 c6 c7 c8 c9 z HS3
  generalize w3.setCell ⟨C, 2, none⟩ (.int .i64 (x2 : Int)) = W3 at *
  refine (HC3.out _ HS4.out.rr).mono ?_
  rintro e w5 ⟨rfl, hR, hW⟩
  have HS5 := hide (HS4.out.rd hR hW hle3)
  obtain ⟨⟨c0, c1, c2, c3, c4, c5, c6, c7, c8, c9⟩, z⟩ := HS5.out.at
  simp only [Rc.zC] at c0 c1 c2 c3 c4 c5 c6 c7 c8 c9
  have HS6 : Hid (Gt w G C b p3 f3 ({ Rc.zC ((2 : Nat) : Int) with jo := (x2 : Int), pr := x3 }) (.slice none 0 0) (w5.setCell ⟨C, 8, none⟩ (.string x3))) := hide (HS5.out.set (c' := { Rc.zC ((2 : Nat) : Int) with jo := (x2 : Int), pr := x3 }) 8 _ rfl (HS5.out.own 8 _))
  clear hR hW HS4 HC3
  have hca := HS6.out.ca
  have hrz := HS6.out.rz
  have hhC := HS6.out.hC
  go_upto_region 27 with fail
  clear c0 c1 c2 c3 c4 c5 c6 c7 c8 c9 z HS5
  generalize w5.setCell ⟨C, 8, none⟩ (.string x3) = W at *
  refine wp_region_list ?_
  refine wpList_load_row rfl 32 _ rfl C (by kernel_rfl) 32 (chC ({ Rc.zC ((2 : Nat) : Int) with jo := (x2 : Int), pr := x3 }) (.slice none 0 0)) (0, 0) _ hca Try.underlying32 rfl (by kernel_rfl) ?_
  refine wpList_store_row rfl 32 _ _ rfl w.heap.size (chC ({ Rc.zC ((2 : Nat) : Int) with jo := (x2 : Int), pr := x3 }) (.slice none 0 0)) (by kernel_rfl) (by kernel_rfl) 32 (chC (Rc.zC 0) (.slice none 0 0)) hrz (by kernel_rfl) rfl (chC_all _ _ (own_one HS6.out.tx)) ?_

  go_wp2_with fail
  refine bodyPost_ret (results_ch rfl _ _ w.heap.size _ rfl (setRow_heap W w.heap.size _ _ _ _ hrz) rfl) rfl ?_
  rw [HD2.out]
  exact HS6.out.ret
set_option maxHeartbeats 4000000 in
set_option maxRecDepth 8000 in
theorem get_3 {w : World} {G p f : Nat} {b : ByteArray} (h : RR w G 0 b p f (aD p f)) (hp : p ≤ b.size) (hb : b.size ≤ 140737488351232) (hk : (Wr.rdN b 6 p f).1 = 3) : Calls Try.prog 11 #[.pointer (some ⟨G, 0, none⟩)] w (GetP w G b (Rc.dget b p f)) := by
  have hG := h.lt
  have HNu := hide (fun (V : World) (most p f : Nat) (hV : RR V G 0 b p f (aD p f)) (hp : p ≤ b.size) => dnumR (most := most) hV hp hb)
  have HTx := hide (fun (V : World) (most p f : Nat) (hm : most ≤ 9223372036854775807) (hV : RR V G 0 b p f (aD p f)) (hp : p ≤ b.size) => dtextR (most := most) hm hV hp hb)
  have HBi := hide (fun (V : World) (p f : Nat) (hV : RR V G 0 b p f (aD p f)) (hp : p ≤ b.size) => dbitsR hV hp hb)
  have HLi := hide (fun (V : World) (most p f : Nat) (hm : most ≤ 9223372036854775807) (hV : RR V G 0 b p f (aD p f)) (hp : p ≤ b.size) => dlistR (most := most) hm hV hp hb)
  have hle1 := (Wr.rdN_le b 6 p f hp).2
  have h0 := HNu.out (w.alloc (.cells (chC (Rc.zC 0) (.slice none 0 0)) 32)) 6 p f (h.keep (Below.heap_alloc w _ _ hG)) hp
  rw [hk] at h0
  have HD : Hid (Rc.dget b p f = Rc.dgK b 3 (Wr.rdN b 6 p f).2.1 (Wr.rdN b 6 p f).2.2) := hide (by unfold Rc.dget; rw [hk])
  have H0 := hide h0
  clear h0 h
  generalize (Wr.rdN b 6 p f).2.1 = p1 at *
  generalize (Wr.rdN b 6 p f).2.2 = f1 at *
  generalize Rc.dget b p f = D at *
  clear hk
  have HD2 : Hid (D = ({ Rc.zC ((3 : Nat) : Int) with jo := (((Wr.rdN b 8 p1 f1).1 : Nat) : Int), ba := (((Wr.rdN b 1099511627776 (Wr.rdN b 8 p1 f1).2.1 (Wr.rdN b 8 p1 f1).2.2).1 : Nat) : Int), sl := (((Wr.rdN b 7 (Wr.rdN b 1099511627776 (Wr.rdN b 8 p1 f1).2.1 (Wr.rdN b 8 p1 f1).2.2).2.1 (Wr.rdN b 1099511627776 (Wr.rdN b 8 p1 f1).2.1 (Wr.rdN b 8 p1 f1).2.2).2.2).1 : Nat) : Int), li := (((Wr.rdN b 1099511627776 (Wr.rdN b 7 (Wr.rdN b 1099511627776 (Wr.rdN b 8 p1 f1).2.1 (Wr.rdN b 8 p1 f1).2.2).2.1 (Wr.rdN b 1099511627776 (Wr.rdN b 8 p1 f1).2.1 (Wr.rdN b 8 p1 f1).2.2).2.2).2.1 (Wr.rdN b 7 (Wr.rdN b 1099511627776 (Wr.rdN b 8 p1 f1).2.1 (Wr.rdN b 8 p1 f1).2.2).2.1 (Wr.rdN b 1099511627776 (Wr.rdN b 8 p1 f1).2.1 (Wr.rdN b 8 p1 f1).2.2).2.2).2.2).1 : Nat) : Int) }, (Wr.rdN b 1099511627776 (Wr.rdN b 7 (Wr.rdN b 1099511627776 (Wr.rdN b 8 p1 f1).2.1 (Wr.rdN b 8 p1 f1).2.2).2.1 (Wr.rdN b 1099511627776 (Wr.rdN b 8 p1 f1).2.1 (Wr.rdN b 8 p1 f1).2.2).2.2).2.1 (Wr.rdN b 7 (Wr.rdN b 1099511627776 (Wr.rdN b 8 p1 f1).2.1 (Wr.rdN b 8 p1 f1).2.2).2.1 (Wr.rdN b 1099511627776 (Wr.rdN b 8 p1 f1).2.1 (Wr.rdN b 8 p1 f1).2.2).2.2).2.2).2.1, (Wr.rdN b 1099511627776 (Wr.rdN b 7 (Wr.rdN b 1099511627776 (Wr.rdN b 8 p1 f1).2.1 (Wr.rdN b 8 p1 f1).2.2).2.1 (Wr.rdN b 1099511627776 (Wr.rdN b 8 p1 f1).2.1 (Wr.rdN b 8 p1 f1).2.2).2.2).2.1 (Wr.rdN b 7 (Wr.rdN b 1099511627776 (Wr.rdN b 8 p1 f1).2.1 (Wr.rdN b 8 p1 f1).2.2).2.1 (Wr.rdN b 1099511627776 (Wr.rdN b 8 p1 f1).2.1 (Wr.rdN b 8 p1 f1).2.2).2.2).2.2).2.2)) := hide (by rw [HD.out]; rfl)
  clear HD
  have HC2 := hide (fun (V : World) (hV : RR V G 0 b p1 f1 (aD p1 f1)) => HNu.out V 8 p1 f1 hV hle1)
  obtain ⟨hx2, hle2⟩ := Wr.rdN_le b 8 p1 f1 hle1
  generalize (Wr.rdN b 8 p1 f1).1 = x2 at *
  generalize (Wr.rdN b 8 p1 f1).2.1 = p2 at *
  generalize (Wr.rdN b 8 p1 f1).2.2 = f2 at *
  have HC3 := hide (fun (V : World) (hV : RR V G 0 b p2 f2 (aD p2 f2)) => HNu.out V 1099511627776 p2 f2 hV hle2)
  obtain ⟨hx3, hle3⟩ := Wr.rdN_le b 1099511627776 p2 f2 hle2
  generalize (Wr.rdN b 1099511627776 p2 f2).1 = x3 at *
  generalize (Wr.rdN b 1099511627776 p2 f2).2.1 = p3 at *
  generalize (Wr.rdN b 1099511627776 p2 f2).2.2 = f3 at *
  have HC4 := hide (fun (V : World) (hV : RR V G 0 b p3 f3 (aD p3 f3)) => HNu.out V 7 p3 f3 hV hle3)
  obtain ⟨hx4, hle4⟩ := Wr.rdN_le b 7 p3 f3 hle3
  generalize (Wr.rdN b 7 p3 f3).1 = x4 at *
  generalize (Wr.rdN b 7 p3 f3).2.1 = p4 at *
  generalize (Wr.rdN b 7 p3 f3).2.2 = f4 at *
  have HC5 := hide (fun (V : World) (hV : RR V G 0 b p4 f4 (aD p4 f4)) => HNu.out V 1099511627776 p4 f4 hV hle4)
  obtain ⟨hx5, hle5⟩ := Wr.rdN_le b 1099511627776 p4 f4 hle4
  generalize (Wr.rdN b 1099511627776 p4 f4).1 = x5 at *
  generalize (Wr.rdN b 1099511627776 p4 f4).2.1 = p5 at *
  generalize (Wr.rdN b 1099511627776 p4 f4).2.2 = f5 at *
  clear HNu HTx HBi HLi
  go_enter Try.func11, Try.ntmps11
  go_wp2_with fail
  refine H0.out.mono ?_
  rintro e w2 ⟨rfl, hR2, hW2⟩
  have HS : Hid (Gt w G w2.heap.size b p1 f1 (Rc.zC ((3 : Nat) : Int)) (.slice none 0 0) (w2.alloc (.cells (chC (Rc.zC ((3 : Nat) : Int)) (.slice none 0 0)) 32))) := hide (Gt.new hR2 hle1 hW2 hG _)

  clear hR2 hW2 H0
  go_wp2_with fail
  generalize w2.heap.size = C at *
  refine (HC2.out _ HS.out.rr).mono ?_
  rintro e w3 ⟨rfl, hR, hW⟩
  have HS3 := hide (HS.out.rd hR hW hle2)
  have hwr2 : IntKind.i64.wrap (x2 : Int) = (x2 : Int) := by rw [IntKind.wrap_i64]; omega
  obtain ⟨⟨c0, c1, c2, c3, c4, c5, c6, c7, c8, c9⟩, z⟩ := HS3.out.at
  simp only [Rc.zC] at c0 c1 c2 c3 c4 c5 c6 c7 c8 c9
  have HS4 : Hid (Gt w G C b p2 f2 ({ Rc.zC ((3 : Nat) : Int) with jo := (x2 : Int) }) (.slice none 0 0) (w3.setCell ⟨C, 2, none⟩ (.int .i64 (x2 : Int)))) := hide (HS3.out.set (c' := { Rc.zC ((3 : Nat) : Int) with jo := (x2 : Int) }) 2 _ rfl (HS3.out.own 2 _))
  clear hR hW HS HC2
  go_wp2_with fail
  clear c0 c1 c2 c3 c4 c5 c6 c7 c8 c9 z HS3
  generalize w3.setCell ⟨C, 2, none⟩ (.int .i64 (x2 : Int)) = W3 at *
  refine (HC3.out _ HS4.out.rr).mono ?_
  rintro e w5 ⟨rfl, hR, hW⟩
  have HS5 := hide (HS4.out.rd hR hW hle3)
  have hwr3 : IntKind.i64.wrap (x3 : Int) = (x3 : Int) := by rw [IntKind.wrap_i64]; omega
  obtain ⟨⟨c0, c1, c2, c3, c4, c5, c6, c7, c8, c9⟩, z⟩ := HS5.out.at
  simp only [Rc.zC] at c0 c1 c2 c3 c4 c5 c6 c7 c8 c9
  have HS6 : Hid (Gt w G C b p3 f3 ({ Rc.zC ((3 : Nat) : Int) with jo := (x2 : Int), ba := (x3 : Int) }) (.slice none 0 0) (w5.setCell ⟨C, 3, none⟩ (.int .i64 (x3 : Int)))) := hide (HS5.out.set (c' := { Rc.zC ((3 : Nat) : Int) with jo := (x2 : Int), ba := (x3 : Int) }) 3 _ rfl (HS5.out.own 3 _))
  clear hR hW HS4 HC3
  go_wp2_with fail
  clear c0 c1 c2 c3 c4 c5 c6 c7 c8 c9 z HS5
  generalize w5.setCell ⟨C, 3, none⟩ (.int .i64 (x3 : Int)) = W5 at *
  refine (HC4.out _ HS6.out.rr).mono ?_
  rintro e w7 ⟨rfl, hR, hW⟩
  have HS7 := hide (HS6.out.rd hR hW hle4)
  have hwr4 : IntKind.i64.wrap (x4 : Int) = (x4 : Int) := by rw [IntKind.wrap_i64]; omega
  obtain ⟨⟨c0, c1, c2, c3, c4, c5, c6, c7, c8, c9⟩, z⟩ := HS7.out.at
  simp only [Rc.zC] at c0 c1 c2 c3 c4 c5 c6 c7 c8 c9
  have HS8 : Hid (Gt w G C b p4 f4 ({ Rc.zC ((3 : Nat) : Int) with jo := (x2 : Int), ba := (x3 : Int), sl := (x4 : Int) }) (.slice none 0 0) (w7.setCell ⟨C, 4, none⟩ (.int .i64 (x4 : Int)))) := hide (HS7.out.set (c' := { Rc.zC ((3 : Nat) : Int) with jo := (x2 : Int), ba := (x3 : Int), sl := (x4 : Int) }) 4 _ rfl (HS7.out.own 4 _))
  clear hR hW HS6 HC4
  go_wp2_with fail
  clear c0 c1 c2 c3 c4 c5 c6 c7 c8 c9 z HS7
  generalize w7.setCell ⟨C, 4, none⟩ (.int .i64 (x4 : Int)) = W7 at *
  refine (HC5.out _ HS8.out.rr).mono ?_
  rintro e w9 ⟨rfl, hR, hW⟩
  have HS9 := hide (HS8.out.rd hR hW hle5)
  have hwr5 : IntKind.i64.wrap (x5 : Int) = (x5 : Int) := by rw [IntKind.wrap_i64]; omega
  obtain ⟨⟨c0, c1, c2, c3, c4, c5, c6, c7, c8, c9⟩, z⟩ := HS9.out.at
  simp only [Rc.zC] at c0 c1 c2 c3 c4 c5 c6 c7 c8 c9
  have HS10 : Hid (Gt w G C b p5 f5 ({ Rc.zC ((3 : Nat) : Int) with jo := (x2 : Int), ba := (x3 : Int), sl := (x4 : Int), li := (x5 : Int) }) (.slice none 0 0) (w9.setCell ⟨C, 5, none⟩ (.int .i64 (x5 : Int)))) := hide (HS9.out.set (c' := { Rc.zC ((3 : Nat) : Int) with jo := (x2 : Int), ba := (x3 : Int), sl := (x4 : Int), li := (x5 : Int) }) 5 _ rfl (HS9.out.own 5 _))
  clear hR hW HS8 HC5
  have hca := HS10.out.ca
  have hrz := HS10.out.rz
  have hhC := HS10.out.hC
  go_upto_region 27 with fail
  clear c0 c1 c2 c3 c4 c5 c6 c7 c8 c9 z HS9
  generalize w9.setCell ⟨C, 5, none⟩ (.int .i64 (x5 : Int)) = W at *
  refine wp_region_list ?_
  refine wpList_load_row rfl 32 _ rfl C (by kernel_rfl) 32 (chC ({ Rc.zC ((3 : Nat) : Int) with jo := (x2 : Int), ba := (x3 : Int), sl := (x4 : Int), li := (x5 : Int) }) (.slice none 0 0)) (0, 0) _ hca Try.underlying32 rfl (by kernel_rfl) ?_
  refine wpList_store_row rfl 32 _ _ rfl w.heap.size (chC ({ Rc.zC ((3 : Nat) : Int) with jo := (x2 : Int), ba := (x3 : Int), sl := (x4 : Int), li := (x5 : Int) }) (.slice none 0 0)) (by kernel_rfl) (by kernel_rfl) 32 (chC (Rc.zC 0) (.slice none 0 0)) hrz (by kernel_rfl) rfl (chC_all _ _ (own_one HS10.out.tx)) ?_

  go_wp2_with fail
  refine bodyPost_ret (results_ch rfl _ _ w.heap.size _ rfl (setRow_heap W w.heap.size _ _ _ _ hrz) rfl) rfl ?_
  rw [HD2.out]
  exact HS10.out.ret
set_option maxHeartbeats 4000000 in
set_option maxRecDepth 8000 in
theorem get_4 {w : World} {G p f : Nat} {b : ByteArray} (h : RR w G 0 b p f (aD p f)) (hp : p ≤ b.size) (hb : b.size ≤ 140737488351232) (hk : (Wr.rdN b 6 p f).1 = 4) : Calls Try.prog 11 #[.pointer (some ⟨G, 0, none⟩)] w (GetP w G b (Rc.dget b p f)) := by
  have hG := h.lt
  have HNu := hide (fun (V : World) (most p f : Nat) (hV : RR V G 0 b p f (aD p f)) (hp : p ≤ b.size) => dnumR (most := most) hV hp hb)
  have HTx := hide (fun (V : World) (most p f : Nat) (hm : most ≤ 9223372036854775807) (hV : RR V G 0 b p f (aD p f)) (hp : p ≤ b.size) => dtextR (most := most) hm hV hp hb)
  have HBi := hide (fun (V : World) (p f : Nat) (hV : RR V G 0 b p f (aD p f)) (hp : p ≤ b.size) => dbitsR hV hp hb)
  have HLi := hide (fun (V : World) (most p f : Nat) (hm : most ≤ 9223372036854775807) (hV : RR V G 0 b p f (aD p f)) (hp : p ≤ b.size) => dlistR (most := most) hm hV hp hb)
  have hle1 := (Wr.rdN_le b 6 p f hp).2
  have h0 := HNu.out (w.alloc (.cells (chC (Rc.zC 0) (.slice none 0 0)) 32)) 6 p f (h.keep (Below.heap_alloc w _ _ hG)) hp
  rw [hk] at h0
  have HD : Hid (Rc.dget b p f = Rc.dgK b 4 (Wr.rdN b 6 p f).2.1 (Wr.rdN b 6 p f).2.2) := hide (by unfold Rc.dget; rw [hk])
  have H0 := hide h0
  clear h0 h
  generalize (Wr.rdN b 6 p f).2.1 = p1 at *
  generalize (Wr.rdN b 6 p f).2.2 = f1 at *
  generalize Rc.dget b p f = D at *
  clear hk
  have HD2 : Hid (D = ({ Rc.zC ((4 : Nat) : Int) with ba := (((Wr.rdN b 1099511627776 p1 f1).1 : Nat) : Int), tx := (Rc.dTs b (Rc.rdL b 8 (Wr.rdN b 1099511627776 p1 f1).2.1 (Wr.rdN b 1099511627776 p1 f1).2.2).1 (Rc.rdL b 8 (Wr.rdN b 1099511627776 p1 f1).2.1 (Wr.rdN b 1099511627776 p1 f1).2.2).2.1 (Rc.rdL b 8 (Wr.rdN b 1099511627776 p1 f1).2.1 (Wr.rdN b 1099511627776 p1 f1).2.2).2.2).1 }, (Rc.dTs b (Rc.rdL b 8 (Wr.rdN b 1099511627776 p1 f1).2.1 (Wr.rdN b 1099511627776 p1 f1).2.2).1 (Rc.rdL b 8 (Wr.rdN b 1099511627776 p1 f1).2.1 (Wr.rdN b 1099511627776 p1 f1).2.2).2.1 (Rc.rdL b 8 (Wr.rdN b 1099511627776 p1 f1).2.1 (Wr.rdN b 1099511627776 p1 f1).2.2).2.2).2.1, (Rc.dTs b (Rc.rdL b 8 (Wr.rdN b 1099511627776 p1 f1).2.1 (Wr.rdN b 1099511627776 p1 f1).2.2).1 (Rc.rdL b 8 (Wr.rdN b 1099511627776 p1 f1).2.1 (Wr.rdN b 1099511627776 p1 f1).2.2).2.1 (Rc.rdL b 8 (Wr.rdN b 1099511627776 p1 f1).2.1 (Wr.rdN b 1099511627776 p1 f1).2.2).2.2).2.2)) := hide (by rw [HD.out]; rfl)
  clear HD
  have HC2 := hide (fun (V : World) (hV : RR V G 0 b p1 f1 (aD p1 f1)) => HNu.out V 1099511627776 p1 f1 hV hle1)
  obtain ⟨hx2, hle2⟩ := Wr.rdN_le b 1099511627776 p1 f1 hle1
  generalize (Wr.rdN b 1099511627776 p1 f1).1 = x2 at *
  generalize (Wr.rdN b 1099511627776 p1 f1).2.1 = p2 at *
  generalize (Wr.rdN b 1099511627776 p1 f1).2.2 = f2 at *
  have HC3 := hide (fun (V : World) (hV : RR V G 0 b p2 f2 (aD p2 f2)) => HLi.out V 8 p2 f2 (by decide) hV hle2)
  obtain ⟨hx3, hle3⟩ := Rc.rdL_le b 8 p2 f2 hle2
  generalize (Rc.rdL b 8 p2 f2).1 = x3 at *
  generalize (Rc.rdL b 8 p2 f2).2.1 = p3 at *
  generalize (Rc.rdL b 8 p2 f2).2.2 = f3 at *
  have HC4 := hide (fun (V : World) (p f : Nat) (hV : RR V G 0 b p f (aD p f)) (hp : p ≤ b.size) => HTx.out V 32 p f (by decide) hV hp)
  obtain ⟨i0, hi0, hz0, hz1, hz2⟩ := info_parts Try.infoS
  clear HNu HTx HBi HLi
  go_enter Try.func11, Try.ntmps11
  go_wp2_with fail
  refine H0.out.mono ?_
  rintro e w2 ⟨rfl, hR2, hW2⟩
  have HS : Hid (Gt w G w2.heap.size b p1 f1 (Rc.zC ((4 : Nat) : Int)) (.slice none 0 0) (w2.alloc (.cells (chC (Rc.zC ((4 : Nat) : Int)) (.slice none 0 0)) 32))) := hide (Gt.new hR2 hle1 hW2 hG _)

  clear hR2 hW2 H0
  go_wp2_with fail
  generalize w2.heap.size = C at *
  refine (HC2.out _ HS.out.rr).mono ?_
  rintro e w3 ⟨rfl, hR, hW⟩
  have HS3 := hide (HS.out.rd hR hW hle2)
  have hwr2 : IntKind.i64.wrap (x2 : Int) = (x2 : Int) := by rw [IntKind.wrap_i64]; omega
  obtain ⟨⟨c0, c1, c2, c3, c4, c5, c6, c7, c8, c9⟩, z⟩ := HS3.out.at
  simp only [Rc.zC] at c0 c1 c2 c3 c4 c5 c6 c7 c8 c9
  have HS4 : Hid (Gt w G C b p2 f2 ({ Rc.zC ((4 : Nat) : Int) with ba := (x2 : Int) }) (.slice none 0 0) (w3.setCell ⟨C, 3, none⟩ (.int .i64 (x2 : Int)))) := hide (HS3.out.set (c' := { Rc.zC ((4 : Nat) : Int) with ba := (x2 : Int) }) 3 _ rfl (HS3.out.own 3 _))
  clear hR hW HS HC2
  go_wp2_with fail
  clear c0 c1 c2 c3 c4 c5 c6 c7 c8 c9 z HS3
  generalize w3.setCell ⟨C, 3, none⟩ (.int .i64 (x2 : Int)) = W3 at *
  refine (HC3.out _ HS4.out.rr).mono ?_
  rintro e w5 ⟨rfl, hR, hW⟩
  have HS5 : Hid (Gt w G C b (Rc.dTs b 0 p3 f3).2.1 (Rc.dTs b 0 p3 f3).2.2 ({ Rc.zC ((4 : Nat) : Int) with ba := (x2 : Int), tx := (Rc.dTs b 0 p3 f3).1 }) (.slice none 0 0) w5) := hide (HS4.out.rd hR hW hle3)
  clear hR hW HS4 HC3
  go_wp2_with fail
  go_loopw [5] (fun u wr => ∃ (i : Nat) (t : Value), i ≤ x3 ∧ u = .int .i64 (i : Int) ∧ Hid (Gt w G C b (Rc.dTs b i p3 f3).2.1 (Rc.dTs b i p3 f3).2.2 ({ Rc.zC ((4 : Nat) : Int) with ba := (x2 : Int), tx := (Rc.dTs b i p3 f3).1 }) t wr)) (fun u _ => x3 - (intOf u).toNat)
  case atStart => exact ⟨0, _, Nat.zero_le _, rfl, HS5⟩
  case round =>
    clear HS5
    obtain ⟨i, t, hi, rfl, HG⟩ := hrel
    by_cases hii : i < x3
    · have hki : (i : Int) < (x3 : Int) := by omega
      go_wp2_with fail
      refine (HC4.out _ _ _ HG.out.rr HG.out.ple).mono ?_
      rintro e w7 ⟨rfl, hR, hW⟩
      have HG7 := hide (HG.out.rd hR hW (rdT_leR b 32 _ _ HG.out.ple))
      have HN : Hid (Rc.dTs b (i + 1) p3 f3 = ((Rc.dTs b i p3 f3).1 ++ [(Wr.rdT b 32 (Rc.dTs b i p3 f3).2.1 (Rc.dTs b i p3 f3).2.2).1], (Wr.rdT b 32 (Rc.dTs b i p3 f3).2.1 (Rc.dTs b i p3 f3).2.2).2)) := hide rfl
      have hll : (Rc.dTs b i p3 f3).1.length = i := Rc.dTs_len b i p3 f3
      clear hR hW HG
      generalize (Wr.rdT b 32 (Rc.dTs b i p3 f3).2.1 (Rc.dTs b i p3 f3).2.2).1 = s at *
      generalize hq : (Wr.rdT b 32 (Rc.dTs b i p3 f3).2.1 (Rc.dTs b i p3 f3).2.2).2 = qq at *
      obtain ⟨pt, ct, rfl⟩ := own_sliceS HG7.out.tx
      obtain ⟨⟨c0, c1, c2, c3, c4, c5, c6, c7, c8, c9⟩, z⟩ := HG7.out.at
      simp only [Rc.zC] at c0 c1 c2 c3 c4 c5 c6 c7 c8 c9
      generalize (Rc.dTs b i p3 f3).1 = T at *
      rw [hll] at c9
      have HO := hide HG7.out.tx
      simp only [hll] at HO
      have hsz7 := HG7.out.og.size
      have hHl := hide hll
      have HG8 : Hid (Gt w G C b qq.1 qq.2 ({ Rc.zC ((4 : Nat) : Int) with ba := (x2 : Int), tx := T }) (.slice pt i ct) w7) := by rw [← hll]; exact HG7
      clear hll hq HG7
      go_upto_region 18 with (at_builtin; refine wpList_append_own _ rfl _ _ 30 rfl w.heap.size 9 i0 (.string ByteArray.empty) 1 16 Try.underlying30 hi0 hz0 hz1 hz2 rfl (by decide) (.slice pt i ct) i (strs T) rfl (HO.out.alloc _) ⟨w7.heap.size, 0, none⟩ 1 1 [.string s] rfl rfl (one_newR _ _ _) (by intro u hu; simp at hu; subst hu; rfl) (by unfold maxLen; omega) (by omega) (by rw [World.size_alloc]; omega) ?_; intro v8 w8 hown hgrow _; obtain ⟨p8, k8, rfl⟩ := own_sliceS hown; obtain ⟨k1, k2, k3, k4⟩ := HG8.out.kept hgrow; have d9 : w8.cell? ⟨C, 9, none⟩ = some (.slice pt i ct) := (by simp [World.cell?, k1, chC]); have zz : w8.frozen? ⟨C, 9, none⟩ = false := (by simp [World.frozen?, k1]); have HG9 := hide (HG8.out.app hgrow (by rw [show ({ Rc.zC ((4 : Nat) : Int) with ba := (x2 : Int), tx := T } : Ch).tx.length = i from hHl.out]; exact hown)); clear hown hgrow k1 k2 k3 k4)
      clear c0 c1 c2 c3 c4 c5 c6 c7 c8 c9 z d9 zz HG8 HO
      go_wp2_with fail
      go_roundw
      case rel => exact ⟨i + 1, _, by omega, by go_num, by rw [HN.out]; exact HG9⟩
      case measure => simp only [intOf]; omega
    · have hki : ¬ (i : Int) < (x3 : Int) := by omega
      obtain rfl : i = x3 := by omega
      have hca := HG.out.ca
      have hrz := HG.out.rz
      have hhC := HG.out.hC
      go_upto_region 27 with fail
      generalize wr = W at *
      refine wp_region_list ?_
      refine wpList_load_row rfl 32 _ rfl C (by kernel_rfl) 32 (chC ({ Rc.zC ((4 : Nat) : Int) with ba := (x2 : Int), tx := (Rc.dTs b i p3 f3).1 }) t) (0, 0) _ hca Try.underlying32 rfl (by kernel_rfl) ?_
      refine wpList_store_row rfl 32 _ _ rfl w.heap.size (chC ({ Rc.zC ((4 : Nat) : Int) with ba := (x2 : Int), tx := (Rc.dTs b i p3 f3).1 }) t) (by kernel_rfl) (by kernel_rfl) 32 (chC (Rc.zC 0) (.slice none 0 0)) hrz (by kernel_rfl) rfl (chC_all _ _ (own_one HG.out.tx)) ?_
    
      go_wp2_with fail
      refine bodyPost_ret (results_ch rfl _ _ w.heap.size _ rfl (setRow_heap W w.heap.size _ _ _ _ hrz) rfl) rfl ?_
      rw [HD2.out]
      exact HG.out.ret
set_option maxHeartbeats 4000000 in
set_option maxRecDepth 8000 in
theorem get_5 {w : World} {G p f : Nat} {b : ByteArray} (h : RR w G 0 b p f (aD p f)) (hp : p ≤ b.size) (hb : b.size ≤ 140737488351232) (hk : (Wr.rdN b 6 p f).1 = 5) : Calls Try.prog 11 #[.pointer (some ⟨G, 0, none⟩)] w (GetP w G b (Rc.dget b p f)) := by
  have hG := h.lt
  have HNu := hide (fun (V : World) (most p f : Nat) (hV : RR V G 0 b p f (aD p f)) (hp : p ≤ b.size) => dnumR (most := most) hV hp hb)
  have HTx := hide (fun (V : World) (most p f : Nat) (hm : most ≤ 9223372036854775807) (hV : RR V G 0 b p f (aD p f)) (hp : p ≤ b.size) => dtextR (most := most) hm hV hp hb)
  have HBi := hide (fun (V : World) (p f : Nat) (hV : RR V G 0 b p f (aD p f)) (hp : p ≤ b.size) => dbitsR hV hp hb)
  have HLi := hide (fun (V : World) (most p f : Nat) (hm : most ≤ 9223372036854775807) (hV : RR V G 0 b p f (aD p f)) (hp : p ≤ b.size) => dlistR (most := most) hm hV hp hb)
  have hle1 := (Wr.rdN_le b 6 p f hp).2
  have h0 := HNu.out (w.alloc (.cells (chC (Rc.zC 0) (.slice none 0 0)) 32)) 6 p f (h.keep (Below.heap_alloc w _ _ hG)) hp
  rw [hk] at h0
  have HD : Hid (Rc.dget b p f = Rc.dgK b 5 (Wr.rdN b 6 p f).2.1 (Wr.rdN b 6 p f).2.2) := hide (by unfold Rc.dget; rw [hk])
  have H0 := hide h0
  clear h0 h
  generalize (Wr.rdN b 6 p f).2.1 = p1 at *
  generalize (Wr.rdN b 6 p f).2.2 = f1 at *
  generalize Rc.dget b p f = D at *
  clear hk
  have HD2 : Hid (D = ({ Rc.zC ((5 : Nat) : Int) with ba := (((Wr.rdN b 1099511627776 p1 f1).1 : Nat) : Int) }, (Wr.rdN b 1099511627776 p1 f1).2.1, (Wr.rdN b 1099511627776 p1 f1).2.2)) := hide (by rw [HD.out]; rfl)
  clear HD
  have HC2 := hide (fun (V : World) (hV : RR V G 0 b p1 f1 (aD p1 f1)) => HNu.out V 1099511627776 p1 f1 hV hle1)
  obtain ⟨hx2, hle2⟩ := Wr.rdN_le b 1099511627776 p1 f1 hle1
  generalize (Wr.rdN b 1099511627776 p1 f1).1 = x2 at *
  generalize (Wr.rdN b 1099511627776 p1 f1).2.1 = p2 at *
  generalize (Wr.rdN b 1099511627776 p1 f1).2.2 = f2 at *
  clear HNu HTx HBi HLi
  go_enter Try.func11, Try.ntmps11
  go_wp2_with fail
  refine H0.out.mono ?_
  rintro e w2 ⟨rfl, hR2, hW2⟩
  have HS : Hid (Gt w G w2.heap.size b p1 f1 (Rc.zC ((5 : Nat) : Int)) (.slice none 0 0) (w2.alloc (.cells (chC (Rc.zC ((5 : Nat) : Int)) (.slice none 0 0)) 32))) := hide (Gt.new hR2 hle1 hW2 hG _)

  clear hR2 hW2 H0
  go_wp2_with fail
  generalize w2.heap.size = C at *
  refine (HC2.out _ HS.out.rr).mono ?_
  rintro e w3 ⟨rfl, hR, hW⟩
  have HS3 := hide (HS.out.rd hR hW hle2)
  have hwr2 : IntKind.i64.wrap (x2 : Int) = (x2 : Int) := by rw [IntKind.wrap_i64]; omega
  obtain ⟨⟨c0, c1, c2, c3, c4, c5, c6, c7, c8, c9⟩, z⟩ := HS3.out.at
  simp only [Rc.zC] at c0 c1 c2 c3 c4 c5 c6 c7 c8 c9
  have HS4 : Hid (Gt w G C b p2 f2 ({ Rc.zC ((5 : Nat) : Int) with ba := (x2 : Int) }) (.slice none 0 0) (w3.setCell ⟨C, 3, none⟩ (.int .i64 (x2 : Int)))) := hide (HS3.out.set (c' := { Rc.zC ((5 : Nat) : Int) with ba := (x2 : Int) }) 3 _ rfl (HS3.out.own 3 _))
  clear hR hW HS HC2
  have hca := HS4.out.ca
  have hrz := HS4.out.rz
  have hhC := HS4.out.hC
  go_upto_region 27 with fail
  clear c0 c1 c2 c3 c4 c5 c6 c7 c8 c9 z HS3
  generalize w3.setCell ⟨C, 3, none⟩ (.int .i64 (x2 : Int)) = W at *
  refine wp_region_list ?_
  refine wpList_load_row rfl 32 _ rfl C (by kernel_rfl) 32 (chC ({ Rc.zC ((5 : Nat) : Int) with ba := (x2 : Int) }) (.slice none 0 0)) (0, 0) _ hca Try.underlying32 rfl (by kernel_rfl) ?_
  refine wpList_store_row rfl 32 _ _ rfl w.heap.size (chC ({ Rc.zC ((5 : Nat) : Int) with ba := (x2 : Int) }) (.slice none 0 0)) (by kernel_rfl) (by kernel_rfl) 32 (chC (Rc.zC 0) (.slice none 0 0)) hrz (by kernel_rfl) rfl (chC_all _ _ (own_one HS4.out.tx)) ?_

  go_wp2_with fail
  refine bodyPost_ret (results_ch rfl _ _ w.heap.size _ rfl (setRow_heap W w.heap.size _ _ _ _ hrz) rfl) rfl ?_
  rw [HD2.out]
  exact HS4.out.ret
set_option maxHeartbeats 4000000 in
set_option maxRecDepth 8000 in
theorem get_6 {w : World} {G p f : Nat} {b : ByteArray} (h : RR w G 0 b p f (aD p f)) (hp : p ≤ b.size) (hb : b.size ≤ 140737488351232) (hk : (Wr.rdN b 6 p f).1 = 6) : Calls Try.prog 11 #[.pointer (some ⟨G, 0, none⟩)] w (GetP w G b (Rc.dget b p f)) := by
  have hG := h.lt
  have HNu := hide (fun (V : World) (most p f : Nat) (hV : RR V G 0 b p f (aD p f)) (hp : p ≤ b.size) => dnumR (most := most) hV hp hb)
  have HTx := hide (fun (V : World) (most p f : Nat) (hm : most ≤ 9223372036854775807) (hV : RR V G 0 b p f (aD p f)) (hp : p ≤ b.size) => dtextR (most := most) hm hV hp hb)
  have HBi := hide (fun (V : World) (p f : Nat) (hV : RR V G 0 b p f (aD p f)) (hp : p ≤ b.size) => dbitsR hV hp hb)
  have HLi := hide (fun (V : World) (most p f : Nat) (hm : most ≤ 9223372036854775807) (hV : RR V G 0 b p f (aD p f)) (hp : p ≤ b.size) => dlistR (most := most) hm hV hp hb)
  have hle1 := (Wr.rdN_le b 6 p f hp).2
  have h0 := HNu.out (w.alloc (.cells (chC (Rc.zC 0) (.slice none 0 0)) 32)) 6 p f (h.keep (Below.heap_alloc w _ _ hG)) hp
  rw [hk] at h0
  have HD : Hid (Rc.dget b p f = Rc.dgK b 6 (Wr.rdN b 6 p f).2.1 (Wr.rdN b 6 p f).2.2) := hide (by unfold Rc.dget; rw [hk])
  have H0 := hide h0
  clear h0 h
  generalize (Wr.rdN b 6 p f).2.1 = p1 at *
  generalize (Wr.rdN b 6 p f).2.2 = f1 at *
  generalize Rc.dget b p f = D at *
  clear hk
  have HD2 : Hid (D = ({ Rc.zC ((6 : Nat) : Int) with ba := (((Wr.rdN b 1099511627776 p1 f1).1 : Nat) : Int), rc := (((Wr.rdN b 7 (Wr.rdN b 1099511627776 p1 f1).2.1 (Wr.rdN b 1099511627776 p1 f1).2.2).1 : Nat) : Int), rb := (Wr.rdB b (Wr.rdN b 7 (Wr.rdN b 1099511627776 p1 f1).2.1 (Wr.rdN b 1099511627776 p1 f1).2.2).2.1 (Wr.rdN b 7 (Wr.rdN b 1099511627776 p1 f1).2.1 (Wr.rdN b 1099511627776 p1 f1).2.2).2.2).1 }, (Wr.rdB b (Wr.rdN b 7 (Wr.rdN b 1099511627776 p1 f1).2.1 (Wr.rdN b 1099511627776 p1 f1).2.2).2.1 (Wr.rdN b 7 (Wr.rdN b 1099511627776 p1 f1).2.1 (Wr.rdN b 1099511627776 p1 f1).2.2).2.2).2.1, (Wr.rdB b (Wr.rdN b 7 (Wr.rdN b 1099511627776 p1 f1).2.1 (Wr.rdN b 1099511627776 p1 f1).2.2).2.1 (Wr.rdN b 7 (Wr.rdN b 1099511627776 p1 f1).2.1 (Wr.rdN b 1099511627776 p1 f1).2.2).2.2).2.2)) := hide (by rw [HD.out]; rfl)
  clear HD
  have HC2 := hide (fun (V : World) (hV : RR V G 0 b p1 f1 (aD p1 f1)) => HNu.out V 1099511627776 p1 f1 hV hle1)
  obtain ⟨hx2, hle2⟩ := Wr.rdN_le b 1099511627776 p1 f1 hle1
  generalize (Wr.rdN b 1099511627776 p1 f1).1 = x2 at *
  generalize (Wr.rdN b 1099511627776 p1 f1).2.1 = p2 at *
  generalize (Wr.rdN b 1099511627776 p1 f1).2.2 = f2 at *
  have HC3 := hide (fun (V : World) (hV : RR V G 0 b p2 f2 (aD p2 f2)) => HNu.out V 7 p2 f2 hV hle2)
  obtain ⟨hx3, hle3⟩ := Wr.rdN_le b 7 p2 f2 hle2
  generalize (Wr.rdN b 7 p2 f2).1 = x3 at *
  generalize (Wr.rdN b 7 p2 f2).2.1 = p3 at *
  generalize (Wr.rdN b 7 p2 f2).2.2 = f3 at *
  have HC4 := hide (fun (V : World) (hV : RR V G 0 b p3 f3 (aD p3 f3)) => HBi.out V p3 f3 hV hle3)
  have hle4 := rdB_leR b p3 f3 hle3
  generalize (Wr.rdB b p3 f3).1 = x4 at *
  generalize (Wr.rdB b p3 f3).2.1 = p4 at *
  generalize (Wr.rdB b p3 f3).2.2 = f4 at *
  clear HNu HTx HBi HLi
  go_enter Try.func11, Try.ntmps11
  go_wp2_with fail
  refine H0.out.mono ?_
  rintro e w2 ⟨rfl, hR2, hW2⟩
  have HS : Hid (Gt w G w2.heap.size b p1 f1 (Rc.zC ((6 : Nat) : Int)) (.slice none 0 0) (w2.alloc (.cells (chC (Rc.zC ((6 : Nat) : Int)) (.slice none 0 0)) 32))) := hide (Gt.new hR2 hle1 hW2 hG _)

  clear hR2 hW2 H0
  go_wp2_with fail
  generalize w2.heap.size = C at *
  refine (HC2.out _ HS.out.rr).mono ?_
  rintro e w3 ⟨rfl, hR, hW⟩
  have HS3 := hide (HS.out.rd hR hW hle2)
  have hwr2 : IntKind.i64.wrap (x2 : Int) = (x2 : Int) := by rw [IntKind.wrap_i64]; omega
  obtain ⟨⟨c0, c1, c2, c3, c4, c5, c6, c7, c8, c9⟩, z⟩ := HS3.out.at
  simp only [Rc.zC] at c0 c1 c2 c3 c4 c5 c6 c7 c8 c9
  have HS4 : Hid (Gt w G C b p2 f2 ({ Rc.zC ((6 : Nat) : Int) with ba := (x2 : Int) }) (.slice none 0 0) (w3.setCell ⟨C, 3, none⟩ (.int .i64 (x2 : Int)))) := hide (HS3.out.set (c' := { Rc.zC ((6 : Nat) : Int) with ba := (x2 : Int) }) 3 _ rfl (HS3.out.own 3 _))
  clear hR hW HS HC2
  go_wp2_with fail
  clear c0 c1 c2 c3 c4 c5 c6 c7 c8 c9 z HS3
  generalize w3.setCell ⟨C, 3, none⟩ (.int .i64 (x2 : Int)) = W3 at *
  refine (HC3.out _ HS4.out.rr).mono ?_
  rintro e w5 ⟨rfl, hR, hW⟩
  have HS5 := hide (HS4.out.rd hR hW hle3)
  have hwr3 : IntKind.i64.wrap (x3 : Int) = (x3 : Int) := by rw [IntKind.wrap_i64]; omega
  obtain ⟨⟨c0, c1, c2, c3, c4, c5, c6, c7, c8, c9⟩, z⟩ := HS5.out.at
  simp only [Rc.zC] at c0 c1 c2 c3 c4 c5 c6 c7 c8 c9
  have HS6 : Hid (Gt w G C b p3 f3 ({ Rc.zC ((6 : Nat) : Int) with ba := (x2 : Int), rc := (x3 : Int) }) (.slice none 0 0) (w5.setCell ⟨C, 6, none⟩ (.int .i64 (x3 : Int)))) := hide (HS5.out.set (c' := { Rc.zC ((6 : Nat) : Int) with ba := (x2 : Int), rc := (x3 : Int) }) 6 _ rfl (HS5.out.own 6 _))
  clear hR hW HS4 HC3
  go_wp2_with fail
  clear c0 c1 c2 c3 c4 c5 c6 c7 c8 c9 z HS5
  generalize w5.setCell ⟨C, 6, none⟩ (.int .i64 (x3 : Int)) = W5 at *
  refine (HC4.out _ HS6.out.rr).mono ?_
  rintro e w7 ⟨rfl, hR, hW⟩
  have HS7 := hide (HS6.out.rd hR hW hle4)
  obtain ⟨⟨c0, c1, c2, c3, c4, c5, c6, c7, c8, c9⟩, z⟩ := HS7.out.at
  simp only [Rc.zC] at c0 c1 c2 c3 c4 c5 c6 c7 c8 c9
  have HS8 : Hid (Gt w G C b p4 f4 ({ Rc.zC ((6 : Nat) : Int) with ba := (x2 : Int), rc := (x3 : Int), rb := x4 }) (.slice none 0 0) (w7.setCell ⟨C, 7, none⟩ (.int .u64 (x4 : Int)))) := hide (HS7.out.set (c' := { Rc.zC ((6 : Nat) : Int) with ba := (x2 : Int), rc := (x3 : Int), rb := x4 }) 7 _ rfl (HS7.out.own 7 _))
  clear hR hW HS6 HC4
  have hca := HS8.out.ca
  have hrz := HS8.out.rz
  have hhC := HS8.out.hC
  go_upto_region 27 with fail
  clear c0 c1 c2 c3 c4 c5 c6 c7 c8 c9 z HS7
  generalize w7.setCell ⟨C, 7, none⟩ (.int .u64 (x4 : Int)) = W at *
  refine wp_region_list ?_
  refine wpList_load_row rfl 32 _ rfl C (by kernel_rfl) 32 (chC ({ Rc.zC ((6 : Nat) : Int) with ba := (x2 : Int), rc := (x3 : Int), rb := x4 }) (.slice none 0 0)) (0, 0) _ hca Try.underlying32 rfl (by kernel_rfl) ?_
  refine wpList_store_row rfl 32 _ _ rfl w.heap.size (chC ({ Rc.zC ((6 : Nat) : Int) with ba := (x2 : Int), rc := (x3 : Int), rb := x4 }) (.slice none 0 0)) (by kernel_rfl) (by kernel_rfl) 32 (chC (Rc.zC 0) (.slice none 0 0)) hrz (by kernel_rfl) rfl (chC_all _ _ (own_one HS8.out.tx)) ?_

  go_wp2_with fail
  refine bodyPost_ret (results_ch rfl _ _ w.heap.size _ rfl (setRow_heap W w.heap.size _ _ _ _ hrz) rfl) rfl ?_
  rw [HD2.out]
  exact HS8.out.ret
end Go.Proofs.Ytlgcimfbhjidgaa
end
