import Derived.Test.YtaikogbeaohmhaaSeO
namespace Go.Proofs.Ytaikogbeaohmhaa
open Go.RowKit

/-- a table and the document's -/
structure Sc where
  b : Nat
  g : Nat
  c : Nat
  D : List Dk
  x : Nat
  y : Nat
  k : Nat
  E : List Dk
structure Pt (B : Nat) (w : World) (s : Sc) : Prop where
  t : Tm 92 B w s.b s.g s.c s.D
  r : Tm 94 B w s.x s.y s.k s.E
  ne : s.g ≠ s.y
  d : DOk s.D
  e : DOk s.E
  l : Like s.D s.E
  n1 : 0 < s.D.length
theorem Pt.below {B : Nat} {w w' : World} {s : Sc} (h : Pt B w s) (hb : Below w.heap.size w w') : Pt B w' s := ⟨h.t.below hb, h.r.below hb, h.ne, h.d, h.e, h.l, h.n1⟩
/-- two blocks are turned -/
structure M2 (g y : Nat) (w w' : World) : Prop where
  os : w'.os = w.os
  tape : w'.tape = w.tape
  output : w'.output = w.output
  size : w.heap.size ≤ w'.heap.size
  block : ∀ k, k < w.heap.size → k ≠ g → k ≠ y → w'.heap[k]? = w.heap[k]?
theorem M2.of_below {g y : Nat} {w w' : World} (h : Below w.heap.size w w') : M2 g y w w' := ⟨h.os, h.tape, h.output, h.size, fun k hk _ _ => h.block k hk⟩
theorem M2.of_on1 {g y : Nat} {w w' : World} (h : On g w w') : M2 g y w w' := ⟨h.os, h.tape, h.output, h.size, fun k hk h1 _ => h.block k hk h1⟩
theorem M2.of_on2 {g y : Nat} {w w' : World} (h : On y w w') : M2 g y w w' := ⟨h.os, h.tape, h.output, h.size, fun k hk _ h2 => h.block k hk h2⟩
theorem M2.trans {g y : Nat} {u v w : World} (h : M2 g y u v) (k : M2 g y v w) : M2 g y u w :=
  ⟨k.os.trans h.os, k.tape.trans h.tape, k.output.trans h.output, Nat.le_trans h.size k.size, fun i hi h1 h2 => (k.block i (Nat.lt_of_lt_of_le hi h.size) h1 h2).trans (h.block i hi h1 h2)⟩
theorem M2.below {g y : Nat} {w w' : World} (h : M2 g y w w') {B : Nat} (h1 : B ≤ g) (h2 : B ≤ y) (h3 : B ≤ w.heap.size) : Below B w w' := ⟨h.os, h.tape, h.output, h.size, fun k hk => h.block k (by omega) (by omega) (by omega)⟩

set_option maxHeartbeats 2000000 in
set_option maxRecDepth 8000 in
theorem lrows_any {B : Nat} {w : World} {s : Sc} (h : Pt B w s) : Calls Try.prog 19 #[.pointer (some ⟨s.b, 0, none⟩), .pointer (some ⟨s.x, 0, none⟩)] w fun e w' => e = .returned (.bool true) ∧ Below w.heap.size w w' := by
  obtain ⟨i0, hi0, hz0, hz1, hz2⟩ := info_parts Try.infoDk
  have HP := hide h
  have HLi := hide h.l.live
  have n8 := Nat.le_trans (live_len s.D) h.t.n8
  clear h
  go_enter Try.func19, Try.ntmps19
  go_wp2_with fail
  refine (trows_any HP.out.t).mono ?_
  rintro e w1 ⟨v1, rfl, ho1, hb1⟩
  obtain ⟨ad1, cap1, rfl⟩ := own_slice ho1
  have HO1 := hide ho1
  have HB := hide hb1
  clear ho1 hb1
  go_wp2_with fail
  refine (told_any (HP.out.r.below HB.out) HP.out.e).mono ?_
  rintro e w2 ⟨v2, rfl, ho2, hb2⟩
  rw [← HLi.out] at ho2
  obtain ⟨ad2, cap2, rfl⟩ := own_slice ho2
  have HO1 := hide (own_below HO1.out hb2)
  have HB := hide (HB.out.trans (hb2.mono HB.out.size))
  obtain ⟨ab1, hr1⟩ := Rd.own HO1.out
  obtain ⟨ab2, hr2⟩ := Rd.own ho2
  have HSm := hide (same_any (cap := cap1) (cap2 := cap2) hr1 hr2 n8)
  clear ho2 hb2 hr1 hr2
  obtain ⟨L, hL⟩ : ∃ L, live s.D = L := ⟨_, rfl⟩
  have HLD := hide hL
  rw [hL] at HLi HO1 HSm n8 ⊢
  clear hL
  go_wp2_with fail
  refine HSm.out.mono ?_
  rintro e w3 ⟨rfl, hb3⟩
  have HO1 := hide (own_below HO1.out hb3)
  have HB := hide (HB.out.trans (hb3.mono HB.out.size))
  clear hb3 HSm
  go_wp2_with fail
  go_loopw [7] (fun t wr => ∃ (i : Nat) (K : List Dk), i ≤ L.length ∧ t = .int .i64 (i : Int) ∧ Hid (K.length = L.length) ∧ Hid (wr.ownsRow w.heap.size 96 5 (.slice ad1 L.length cap1) K.length (dks K)) ∧ Hid (Below w.heap.size w wr)) (fun t _ => L.length - (intOf t).toNat)
  case atStart => exact ⟨0, L, Nat.zero_le _, rfl, hide rfl, HO1, HB⟩
  case round =>
    clear HO1 HB
    obtain ⟨i, K, hi, rfl, HK, HO, HB⟩ := hrel
    by_cases hid : i < L.length
    · have hii : (i : Int) < (L.length : Int) := by omega
      obtain ⟨g, cap, hv⟩ := two_own HO.out (by rw [HK.out]; omega)
      injection hv with hv hv2 hv3
      subst hv
      have hcell : ∀ k, k < 5 → ∃ v, wr.cell? ⟨g, i * 5 + k, none⟩ = some v := fun k hk => by
        have hO := HO.out
        rw [hv2] at hO
        have hl := HK.out
        obtain ⟨d, hd⟩ : ∃ d, K[i]? = some d := ⟨_, List.getElem?_eq_getElem (by omega)⟩
        obtain ⟨hl2, rfl⟩ := List.getElem?_eq_some_iff.1 hd
        have := (hO.cellAt (i * 5 + k) (by omega)).trans (dks_get K i k hl2 hk)
        rw [List.getElem?_eq_getElem (show k < 5 from hk)] at this
        exact ⟨_, this⟩
      obtain ⟨x0, y0⟩ := hcell 0 (by decide)
      obtain ⟨x1, y1⟩ := hcell 1 (by decide)
      obtain ⟨x2, y2⟩ := hcell 2 (by decide)
      obtain ⟨x3, y3⟩ := hcell 3 (by decide)
      obtain ⟨x4, y4⟩ := hcell 4 (by decide)
      have z : ∀ k, wr.frozen? ⟨g, k, none⟩ = false := fun k => by
        have hO := HO.out
        rw [hv2] at hO
        exact hO.frozenAt k
      rw [Nat.add_zero] at y0
      clear hcell
      have HV := hide hv2
      clear hv2 hv3
      go_wp2_with fail
      go_roundw
      case rel =>
        refine ⟨i + 1, K.set i ⟨-(i : Int), 0, 0, 0, e0⟩, by omega, by go_num, hide (by rw [List.length_set]; exact HK.out), hide ?_, hide (HB.out.trans (((On.refl g wr).putD (i * 5) ⟨-(i : Int), 0, 0, 0, e0⟩).below (HO.out.lt g rfl).1 HB.out.size))⟩
        have hl := HK.out
        rw [List.length_set, ← dks_put K i ⟨-(i : Int), 0, 0, 0, e0⟩ (by omega)]
        have hO := HO.out
        rw [HV.out] at hO ⊢
        exact (((((hO.stored (i * 5) _).1.stored (i * 5 + 1) _).1.stored (i * 5 + 2) _).1.stored (i * 5 + 3) _).1.stored (i * 5 + 4) _).1
      case measure => simp only [intOf]; omega
    · have hii : ¬ (i : Int) < (L.length : Int) := by omega
      have HO2 : Hid (wr.ownsRow w.heap.size 96 5 (.slice ad1 L.length cap1) L.length (dks K)) := hide (by have := HO.out; rw [HK.out] at this; exact this)
      have HNEW : Hid ((wr.alloc (.cells #[.int .i64 0, .int .i64 (L.length : Int), .int .i64 0, .int .i64 0, .string ⟨#[]⟩] 96)).heap[wr.heap.size]? = some (.cells #[.int .i64 0, .int .i64 (L.length : Int), .int .i64 0, .int .i64 0, .string ⟨#[]⟩] 96 (0, 0))) := hide (heap_alloc_new _ _)
      clear HO HK hi hid
      go_upto_region 8 with (at_builtin; refine wpList_append_own _ rfl _ _ 90 rfl w.heap.size 96 i0 (.agg #[.int .i64 0, .int .i64 0, .int .i64 0, .int .i64 0, .string ByteArray.empty]) 5 48 Try.underlying90 hi0 hz0 hz1 hz2 rfl (by decide) (.slice ad1 L.length cap1) L.length (dks K) rfl (HO2.out.alloc _) ⟨wr.heap.size, 0, none⟩ 1 1 (dks [⟨0, (L.length : Int), 0, 0, ⟨#[]⟩⟩]) rfl rfl (World.news_of_block (cs := #[.int .i64 0, .int .i64 (L.length : Int), .int .i64 0, .int .i64 0, .string ⟨#[]⟩]) (t := 96) (fr := (0, 0)) HNEW.out) (dks_one ⟨0, (L.length : Int), 0, 0, ⟨#[]⟩⟩) (by unfold maxLen; omega) (by omega) (by rw [World.size_alloc]; have := HB.out.size; omega) ?_; intro v4 w4 hown hgrow hnil; obtain ⟨ad5, cap5, rfl⟩ := own_slice hown)
      have HB := hide (below_grown (HB.out.alloc HB.out.size (.cells #[.int .i64 0, .int .i64 (L.length : Int), .int .i64 0, .int .i64 0, .string ⟨#[]⟩] 96)) hgrow (by rw [World.size_alloc]; have := HB.out.size; omega) (fun k hk => (HO2.out.lt k hk).1))
      clear hown hgrow hnil HNEW HO2
      go_wp2_with fail
      refine (trows_any (HP.out.t.below HB.out)).mono ?_
      rw [HLD.out]
      rintro e w5 ⟨v1, rfl, ho1, hb1⟩
      obtain ⟨ad6, cap6, rfl⟩ := own_slice ho1
      have HO1 := hide ho1
      have HB := hide (HB.out.trans (hb1.mono HB.out.size))
      clear ho1 hb1
      go_wp2_with fail
      refine (told_any (HP.out.r.below HB.out) HP.out.e).mono ?_
      rw [← HLi.out]
      rintro e w6 ⟨v2, rfl, ho2, hb2⟩
      obtain ⟨ad7, cap7, rfl⟩ := own_slice ho2
      have HO1 := hide (own_below HO1.out hb2)
      have HB := hide (HB.out.trans (hb2.mono HB.out.size))
      obtain ⟨ab6, hr1⟩ := Rd.own HO1.out
      obtain ⟨ab7, hr2⟩ := Rd.own ho2
      have HSm := hide (same_any (cap := cap6) (cap2 := cap7) hr1 hr2 n8)
      clear ho2 hb2 hr1 hr2 HO1
      go_wp2_with fail
      refine HSm.out.mono ?_
      rintro e w7 ⟨rfl, hb3⟩
      have HB := hide (HB.out.trans (hb3.mono HB.out.size))
      clear hb3 HSm
      go_wp2_with fail
      go_ret
      exact ⟨rfl, HB.out⟩

/-- a pair's next state -/
def Sc.opn (s : Sc) (q : Rw) : Sc := { s with D := (tOpen s.D q.sl q.li q.se).D, E := (tOpen s.E q.sl q.li q.se).D }
def Sc.ans (s : Sc) (q : Rw) : Sc := { s with D := (tAnswer s.D q.sl q.rp).D, E := (tAnswer s.E q.sl q.rp).D }
def Sc.does (s : Sc) (q : Rw) : Sc := if q.k = 2 then s.opn q else if q.k = 4 then s.ans q else s
/-- what a call of both leaves -/
def LPost (B : Nat) (w : World) (s : Sc) (q : Rw) (e : Ending) (w' : World) : Prop := e = .returned (.bool true) ∧ Pt B w' (s.does q) ∧ M2 s.g s.y w w'
theorem Pt.blk {B : Nat} {w : World} {s : Sc} (h : Pt B w s) : (∃ cs, w.heap[s.g]? = some (.cells cs 96 (0, 0))) ∧ ∃ cs, w.heap[s.y]? = some (.cells cs 96 (0, 0)) := ⟨own_blk h.t.row rfl, own_blk h.r.row rfl⟩

set_option maxHeartbeats 4000000 in
set_option maxRecDepth 8000 in
theorem tells_1 {B : Nat} {w : World} {s : Sc} (h : Pt B w s) (q : Rw) (hn : I6 q.nu) (e1 : (q.k == 1) = true) : Calls Try.prog 18 #[.pointer (some ⟨s.b, 0, none⟩), .pointer (some ⟨s.x, 0, none⟩), .agg #[.int .i64 q.k, .int .i64 q.on, .int .i64 q.sl, .int .i64 q.li, .int .i64 q.se, .int .i64 q.nu, .string q.rp]] w (LPost B w s q) := by
  have HX : Hid (Rx (w.alloc (.cells #[.int .i64 q.k, .int .i64 q.on, .int .i64 q.sl, .int .i64 q.li, .int .i64 q.se, .int .i64 q.nu, .string q.rp] 56)) w.heap.size q) := hide (heap_alloc_new w _)
  have HP := hide (h.below (below_alloc w (.cells #[.int .i64 q.k, .int .i64 q.on, .int .i64 q.sl, .int .i64 q.li, .int .i64 q.se, .int .i64 q.nu, .string q.rp] 56)))
  have HB := hide (below_alloc w (.cells #[.int .i64 q.k, .int .i64 q.on, .int .i64 q.sl, .int .i64 q.li, .int .i64 q.se, .int .i64 q.nu, .string q.rp] 56))
  have HN := hide hn
  have HD : Hid (s.does q = s) := hide (by unfold Sc.does; rw [if_neg (by intro e; rw [e] at e1; cases e1), if_neg (by intro e; rw [e] at e1; cases e1)])
  clear h hn
  go_enter Try.func18, Try.ntmps18
  go_wp2_with fail
  obtain ⟨X, hX⟩ : ∃ X, w.heap.size = X := ⟨_, rfl⟩
  rw [hX] at HX
  try rw [hX]
  have HXX := hide hX
  clear hX
  generalize w.alloc (.cells #[.int .i64 q.k, .int .i64 q.on, .int .i64 q.sl, .int .i64 q.li, .int .i64 q.se, .int .i64 q.nu, .string q.rp] 56) = W at *
  refine (thello_any HP.out.t q.sl q.li).mono ?_
  rintro e w1 ⟨rfl, hb⟩
  have HX := hide (HX.out.below hb)
  have HP := hide (HP.out.below hb)
  have HB := hide (HB.out.trans (hb.mono HB.out.size))
  clear hb
  obtain ⟨x0, x1, x2, x3, x4, x5, x6⟩ := HX.out.cells
  go_wp2_with fail
  refine (rhello_any HP.out.r q.sl q.li).mono ?_
  rintro e w2 ⟨rfl, hb⟩
  have HP := hide (HP.out.below hb)
  have HB := hide (HB.out.trans (hb.mono HB.out.size))
  clear hb x0 x1 x2 x3 x4 x5 x6 HX
  rw [HP.out.l.hello]
  generalize tHello s.D q.sl q.li = r
  obtain ⟨a, c⟩ := r
  simp only
  have n1 : (a == a) = true := by simp
  have n2 : (c == c) = true := by simp
  go_wp2_with fail
  go_ret
  exact ⟨rfl, by rw [HD.out]; exact HP.out, M2.of_below (by rw [HXX.out] at *; exact HB.out)⟩

set_option maxHeartbeats 4000000 in
set_option maxRecDepth 8000 in
theorem tells_3 {B : Nat} {w : World} {s : Sc} (h : Pt B w s) (q : Rw) (hn : I6 q.nu) (e1 : (q.k == 1) = false) (e2 : (q.k == 2) = false) (e3 : (q.k == 3) = true) : Calls Try.prog 18 #[.pointer (some ⟨s.b, 0, none⟩), .pointer (some ⟨s.x, 0, none⟩), .agg #[.int .i64 q.k, .int .i64 q.on, .int .i64 q.sl, .int .i64 q.li, .int .i64 q.se, .int .i64 q.nu, .string q.rp]] w (LPost B w s q) := by
  have HX : Hid (Rx (w.alloc (.cells #[.int .i64 q.k, .int .i64 q.on, .int .i64 q.sl, .int .i64 q.li, .int .i64 q.se, .int .i64 q.nu, .string q.rp] 56)) w.heap.size q) := hide (heap_alloc_new w _)
  have HP := hide (h.below (below_alloc w (.cells #[.int .i64 q.k, .int .i64 q.on, .int .i64 q.sl, .int .i64 q.li, .int .i64 q.se, .int .i64 q.nu, .string q.rp] 56)))
  have HB := hide (below_alloc w (.cells #[.int .i64 q.k, .int .i64 q.on, .int .i64 q.sl, .int .i64 q.li, .int .i64 q.se, .int .i64 q.nu, .string q.rp] 56))
  have HN := hide hn
  have HD : Hid (s.does q = s) := hide (by unfold Sc.does; rw [if_neg (by intro e; rw [e] at e3; cases e3), if_neg (by intro e; rw [e] at e3; cases e3)])
  clear h hn
  go_enter Try.func18, Try.ntmps18
  go_wp2_with fail
  obtain ⟨X, hX⟩ : ∃ X, w.heap.size = X := ⟨_, rfl⟩
  rw [hX] at HX
  try rw [hX]
  have HXX := hide hX
  clear hX
  generalize w.alloc (.cells #[.int .i64 q.k, .int .i64 q.on, .int .i64 q.sl, .int .i64 q.li, .int .i64 q.se, .int .i64 q.nu, .string q.rp] 56) = W at *
  refine (task_any HP.out.t HP.out.d q.sl q.li q.se q.nu).mono ?_
  rintro e w1 ⟨rfl, hb⟩
  have HX := hide (HX.out.below hb)
  have HP := hide (HP.out.below hb)
  have HB := hide (HB.out.trans (hb.mono HB.out.size))
  clear hb
  obtain ⟨x0, x1, x2, x3, x4, x5, x6⟩ := HX.out.cells
  go_wp2_with fail
  refine (rask_any HP.out.r HP.out.e q.sl q.li q.se HN.out).mono ?_
  rintro e w2 ⟨rfl, hb⟩
  have HP := hide (HP.out.below hb)
  have HB := hide (HB.out.trans (hb.mono HB.out.size))
  clear hb x0 x1 x2 x3 x4 x5 x6 HX
  rw [HP.out.l.ask]
  generalize tAsk s.D q.sl q.li q.se q.nu = r
  obtain ⟨a, c⟩ := r
  simp only
  have n1 : (a == a) = true := by simp
  go_wp2_with fail
  go_ret
  exact ⟨rfl, by rw [HD.out]; exact HP.out, M2.of_below (by rw [HXX.out] at *; exact HB.out)⟩

set_option maxHeartbeats 4000000 in
set_option maxRecDepth 8000 in
theorem tells_0 {B : Nat} {w : World} {s : Sc} (h : Pt B w s) (q : Rw) (hn : I6 q.nu) (e1 : (q.k == 1) = false) (e2 : (q.k == 2) = false) (e3 : (q.k == 3) = false) (e4 : (q.k == 4) = false) : Calls Try.prog 18 #[.pointer (some ⟨s.b, 0, none⟩), .pointer (some ⟨s.x, 0, none⟩), .agg #[.int .i64 q.k, .int .i64 q.on, .int .i64 q.sl, .int .i64 q.li, .int .i64 q.se, .int .i64 q.nu, .string q.rp]] w (LPost B w s q) := by
  have HX : Hid (Rx (w.alloc (.cells #[.int .i64 q.k, .int .i64 q.on, .int .i64 q.sl, .int .i64 q.li, .int .i64 q.se, .int .i64 q.nu, .string q.rp] 56)) w.heap.size q) := hide (heap_alloc_new w _)
  have HP := hide (h.below (below_alloc w (.cells #[.int .i64 q.k, .int .i64 q.on, .int .i64 q.sl, .int .i64 q.li, .int .i64 q.se, .int .i64 q.nu, .string q.rp] 56)))
  have HB := hide (below_alloc w (.cells #[.int .i64 q.k, .int .i64 q.on, .int .i64 q.sl, .int .i64 q.li, .int .i64 q.se, .int .i64 q.nu, .string q.rp] 56))
  have HN := hide hn
  have HD : Hid (s.does q = s) := hide (by unfold Sc.does; rw [if_neg (by intro e; rw [e] at e2; cases e2), if_neg (by intro e; rw [e] at e4; cases e4)])
  clear h hn
  go_enter Try.func18, Try.ntmps18
  go_wp2_with fail
  obtain ⟨X, hX⟩ : ∃ X, w.heap.size = X := ⟨_, rfl⟩
  rw [hX] at HX
  try rw [hX]
  have HXX := hide hX
  clear hX
  generalize w.alloc (.cells #[.int .i64 q.k, .int .i64 q.on, .int .i64 q.sl, .int .i64 q.li, .int .i64 q.se, .int .i64 q.nu, .string q.rp] 56) = W at *
  refine (lrows_any HP.out).mono ?_
  rintro e w1 ⟨rfl, hb⟩
  have HP := hide (HP.out.below hb)
  have HB := hide (HB.out.trans (hb.mono HB.out.size))
  clear hb HX
  go_wp2_with fail
  go_ret
  exact ⟨rfl, by rw [HD.out]; exact HP.out, M2.of_below (by rw [HXX.out] at *; exact HB.out)⟩

set_option maxHeartbeats 4000000 in
set_option maxRecDepth 8000 in
theorem tells_2 {B : Nat} {w : World} {s : Sc} (h : Pt B w s) (q : Rw) (hn : I6 q.nu) (e1 : (q.k == 1) = false) (e2 : (q.k == 2) = true) : Calls Try.prog 18 #[.pointer (some ⟨s.b, 0, none⟩), .pointer (some ⟨s.x, 0, none⟩), .agg #[.int .i64 q.k, .int .i64 q.on, .int .i64 q.sl, .int .i64 q.li, .int .i64 q.se, .int .i64 q.nu, .string q.rp]] w (LPost B w s q) := by
  have HX : Hid (Rx (w.alloc (.cells #[.int .i64 q.k, .int .i64 q.on, .int .i64 q.sl, .int .i64 q.li, .int .i64 q.se, .int .i64 q.nu, .string q.rp] 56)) w.heap.size q) := hide (heap_alloc_new w _)
  have HP := hide (h.below (below_alloc w (.cells #[.int .i64 q.k, .int .i64 q.on, .int .i64 q.sl, .int .i64 q.li, .int .i64 q.se, .int .i64 q.nu, .string q.rp] 56)))
  have HB := hide (below_alloc w (.cells #[.int .i64 q.k, .int .i64 q.on, .int .i64 q.sl, .int .i64 q.li, .int .i64 q.se, .int .i64 q.nu, .string q.rp] 56))
  have HN := hide hn
  have HD : Hid (s.does q = s.opn q) := hide (if_pos (by simpa using e2))
  clear h hn
  go_enter Try.func18, Try.ntmps18
  go_wp2_with fail
  obtain ⟨X, hX⟩ : ∃ X, w.heap.size = X := ⟨_, rfl⟩
  rw [hX] at HX
  try rw [hX]
  have HXX := hide hX
  clear hX
  generalize w.alloc (.cells #[.int .i64 q.k, .int .i64 q.on, .int .i64 q.sl, .int .i64 q.li, .int .i64 q.se, .int .i64 q.nu, .string q.rp] 56) = W at *
  obtain ⟨ec, hec⟩ : ∃ ec, (tOpen s.D q.sl q.li q.se).e = ec := ⟨_, rfl⟩
  have HEC := hide hec
  have HEE : Hid ((tOpen s.E q.sl q.li q.se).e = ec) := hide (by rw [(HP.out.l.opn q.sl q.li q.se).1]; exact hec)
  clear hec
  have HCe : Hid (∀ V, Rx V X q → (V.cell? ⟨X, 0, none⟩ = some (.int .i64 q.k) ∧ V.cell? ⟨X, 1, none⟩ = some (.int .i64 q.on) ∧ V.cell? ⟨X, 2, none⟩ = some (.int .i64 q.sl) ∧ V.cell? ⟨X, 3, none⟩ = some (.int .i64 q.li) ∧ V.cell? ⟨X, 4, none⟩ = some (.int .i64 q.se) ∧ V.cell? ⟨X, 5, none⟩ = some (.int .i64 q.nu) ∧ V.cell? ⟨X, 6, none⟩ = some (.string q.rp))) := hide fun V hV => hV.cells
  have HP : Hid (Pt B W.drew s) := hide ⟨HP.out.t.drew, HP.out.r.drew, HP.out.ne, HP.out.d, HP.out.e, HP.out.l, HP.out.n1⟩
  have HB : Hid (Below w.heap.size w W.drew) := hide ⟨HB.out.os, HB.out.tape, HB.out.output, HB.out.size, HB.out.block⟩
  have nq : (ec == ec) = true := by simp
  refine wp_region_held_drew (S := fun w' => Rx w' X q) (by kernel_rfl) (HX.out) (fun hHeld => ?_)
  refine wpAnyH_take (i := 0) (v := .pointer (some ⟨s.b, 0, none⟩)) rfl (by kernel_rfl) (by kernel_rfl) (by kernel_rfl) (fun _ _ _ h => h) (Or.inl ⟨by kernel_rfl, fun w1 hSw => by clear hHeld; obtain ⟨k0, k1, k2, k3, k4, k5, k6⟩ := HCe.out _ hSw; go_simp⟩) hHeld ?_
  try simp only [Act.put]
  try simp only [List.getElem_toArray]
  try simp only [List.getElem_cons_succ]
  try simp only [List.getElem_cons_zero]
  try simp only [List.setIfInBounds_toArray]
  try simp only [List.set_cons_succ, List.set_cons_zero]
  refine wpAnyH_take (i := 1) (v := .pointer (some ⟨X, 2, none⟩)) rfl (by kernel_rfl) (by kernel_rfl) (by kernel_rfl) (fun _ _ _ h => h) (Or.inl ⟨by kernel_rfl, fun w1 hSw => by clear hHeld; obtain ⟨k0, k1, k2, k3, k4, k5, k6⟩ := HCe.out _ hSw; go_simp⟩) hHeld ?_
  try simp only [Act.put]
  try simp only [List.getElem_toArray]
  try simp only [List.getElem_cons_succ]
  try simp only [List.getElem_cons_zero]
  try simp only [List.setIfInBounds_toArray]
  try simp only [List.set_cons_succ, List.set_cons_zero]
  refine wpAnyH_take (i := 2) (v := .int .i64 q.sl) rfl (by kernel_rfl) (by kernel_rfl) (by kernel_rfl) (fun _ _ _ h => h) (Or.inl ⟨by kernel_rfl, fun w1 hSw => by clear hHeld; obtain ⟨k0, k1, k2, k3, k4, k5, k6⟩ := HCe.out _ hSw; go_simp⟩) hHeld ?_
  try simp only [Act.put]
  try simp only [List.getElem_toArray]
  try simp only [List.getElem_cons_succ]
  try simp only [List.getElem_cons_zero]
  try simp only [List.setIfInBounds_toArray]
  try simp only [List.set_cons_succ, List.set_cons_zero]
  refine wpAnyH_take (i := 3) (v := .pointer (some ⟨X, 3, none⟩)) rfl (by kernel_rfl) (by kernel_rfl) (by kernel_rfl) (fun _ _ _ h => h) (Or.inl ⟨by kernel_rfl, fun w1 hSw => by clear hHeld; obtain ⟨k0, k1, k2, k3, k4, k5, k6⟩ := HCe.out _ hSw; go_simp⟩) hHeld ?_
  try simp only [Act.put]
  try simp only [List.getElem_toArray]
  try simp only [List.getElem_cons_succ]
  try simp only [List.getElem_cons_zero]
  try simp only [List.setIfInBounds_toArray]
  try simp only [List.set_cons_succ, List.set_cons_zero]
  refine wpAnyH_take (i := 4) (v := .int .i64 q.li) rfl (by kernel_rfl) (by kernel_rfl) (by kernel_rfl) (fun _ _ _ h => h) (Or.inl ⟨by kernel_rfl, fun w1 hSw => by clear hHeld; obtain ⟨k0, k1, k2, k3, k4, k5, k6⟩ := HCe.out _ hSw; go_simp⟩) hHeld ?_
  try simp only [Act.put]
  try simp only [List.getElem_toArray]
  try simp only [List.getElem_cons_succ]
  try simp only [List.getElem_cons_zero]
  try simp only [List.setIfInBounds_toArray]
  try simp only [List.set_cons_succ, List.set_cons_zero]
  refine wpAnyH_take (i := 5) (v := .pointer (some ⟨X, 4, none⟩)) rfl (by kernel_rfl) (by kernel_rfl) (by kernel_rfl) (fun _ _ _ h => h) (Or.inl ⟨by kernel_rfl, fun w1 hSw => by clear hHeld; obtain ⟨k0, k1, k2, k3, k4, k5, k6⟩ := HCe.out _ hSw; go_simp⟩) hHeld ?_
  try simp only [Act.put]
  try simp only [List.getElem_toArray]
  try simp only [List.getElem_cons_succ]
  try simp only [List.getElem_cons_zero]
  try simp only [List.setIfInBounds_toArray]
  try simp only [List.set_cons_succ, List.set_cons_zero]
  refine wpAnyH_take (i := 6) (v := .int .i64 q.se) rfl (by kernel_rfl) (by kernel_rfl) (by kernel_rfl) (fun _ _ _ h => h) (Or.inl ⟨by kernel_rfl, fun w1 hSw => by clear hHeld; obtain ⟨k0, k1, k2, k3, k4, k5, k6⟩ := HCe.out _ hSw; go_simp⟩) hHeld ?_
  try simp only [Act.put]
  try simp only [List.getElem_toArray]
  try simp only [List.getElem_cons_succ]
  try simp only [List.getElem_cons_zero]
  try simp only [List.setIfInBounds_toArray]
  try simp only [List.set_cons_succ, List.set_cons_zero]
  refine wpAnyH_take (i := 8) (v := .pointer (some ⟨s.x, 0, none⟩)) rfl (by kernel_rfl) (by kernel_rfl) (by kernel_rfl) (fun _ _ _ h => h) (Or.inl ⟨by kernel_rfl, fun w1 hSw => by clear hHeld; obtain ⟨k0, k1, k2, k3, k4, k5, k6⟩ := HCe.out _ hSw; go_simp⟩) hHeld ?_
  try simp only [Act.put]
  try simp only [List.getElem_toArray]
  try simp only [List.getElem_cons_succ]
  try simp only [List.getElem_cons_zero]
  try simp only [List.setIfInBounds_toArray]
  try simp only [List.set_cons_succ, List.set_cons_zero]
  refine wpAnyH_take (i := 9) (v := .pointer (some ⟨X, 2, none⟩)) rfl (by kernel_rfl) (by kernel_rfl) (by kernel_rfl) (fun _ _ _ h => h) (Or.inl ⟨by kernel_rfl, fun w1 hSw => by clear hHeld; obtain ⟨k0, k1, k2, k3, k4, k5, k6⟩ := HCe.out _ hSw; go_simp⟩) hHeld ?_
  try simp only [Act.put]
  try simp only [List.getElem_toArray]
  try simp only [List.getElem_cons_succ]
  try simp only [List.getElem_cons_zero]
  try simp only [List.setIfInBounds_toArray]
  try simp only [List.set_cons_succ, List.set_cons_zero]
  refine wpAnyH_take (i := 10) (v := .int .i64 q.sl) rfl (by kernel_rfl) (by kernel_rfl) (by kernel_rfl) (fun _ _ _ h => h) (Or.inl ⟨by kernel_rfl, fun w1 hSw => by clear hHeld; obtain ⟨k0, k1, k2, k3, k4, k5, k6⟩ := HCe.out _ hSw; go_simp⟩) hHeld ?_
  try simp only [Act.put]
  try simp only [List.getElem_toArray]
  try simp only [List.getElem_cons_succ]
  try simp only [List.getElem_cons_zero]
  try simp only [List.setIfInBounds_toArray]
  try simp only [List.set_cons_succ, List.set_cons_zero]
  refine wpAnyH_take (i := 11) (v := .pointer (some ⟨X, 3, none⟩)) rfl (by kernel_rfl) (by kernel_rfl) (by kernel_rfl) (fun _ _ _ h => h) (Or.inl ⟨by kernel_rfl, fun w1 hSw => by clear hHeld; obtain ⟨k0, k1, k2, k3, k4, k5, k6⟩ := HCe.out _ hSw; go_simp⟩) hHeld ?_
  try simp only [Act.put]
  try simp only [List.getElem_toArray]
  try simp only [List.getElem_cons_succ]
  try simp only [List.getElem_cons_zero]
  try simp only [List.setIfInBounds_toArray]
  try simp only [List.set_cons_succ, List.set_cons_zero]
  refine wpAnyH_take (i := 12) (v := .int .i64 q.li) rfl (by kernel_rfl) (by kernel_rfl) (by kernel_rfl) (fun _ _ _ h => h) (Or.inl ⟨by kernel_rfl, fun w1 hSw => by clear hHeld; obtain ⟨k0, k1, k2, k3, k4, k5, k6⟩ := HCe.out _ hSw; go_simp⟩) hHeld ?_
  try simp only [Act.put]
  try simp only [List.getElem_toArray]
  try simp only [List.getElem_cons_succ]
  try simp only [List.getElem_cons_zero]
  try simp only [List.setIfInBounds_toArray]
  try simp only [List.set_cons_succ, List.set_cons_zero]
  refine wpAnyH_take (i := 13) (v := .pointer (some ⟨X, 4, none⟩)) rfl (by kernel_rfl) (by kernel_rfl) (by kernel_rfl) (fun _ _ _ h => h) (Or.inl ⟨by kernel_rfl, fun w1 hSw => by clear hHeld; obtain ⟨k0, k1, k2, k3, k4, k5, k6⟩ := HCe.out _ hSw; go_simp⟩) hHeld ?_
  try simp only [Act.put]
  try simp only [List.getElem_toArray]
  try simp only [List.getElem_cons_succ]
  try simp only [List.getElem_cons_zero]
  try simp only [List.setIfInBounds_toArray]
  try simp only [List.set_cons_succ, List.set_cons_zero]
  refine wpAnyH_take (i := 14) (v := .int .i64 q.se) rfl (by kernel_rfl) (by kernel_rfl) (by kernel_rfl) (fun _ _ _ h => h) (Or.inl ⟨by kernel_rfl, fun w1 hSw => by clear hHeld; obtain ⟨k0, k1, k2, k3, k4, k5, k6⟩ := HCe.out _ hSw; go_simp⟩) hHeld ?_
  try simp only [Act.put]
  try simp only [List.getElem_toArray]
  try simp only [List.getElem_cons_succ]
  try simp only [List.getElem_cons_zero]
  try simp only [List.setIfInBounds_toArray]
  try simp only [List.set_cons_succ, List.set_cons_zero]
  refine wpAnyH_ready (rs := [7]) (by kernel_rfl) (by simp) ?_
  refine AllReadyH.cons rfl (fun K hK => ?_) AllReadyH.nil
  go_simp
  refine (topen_any HP.out.t q.sl q.li q.se).mono ?_
  rintro e V1 ⟨rfl, ht1, ho1⟩
  rw [HEC.out]
  have HX1 := hide (Rx.onT hHeld HP.out.t ho1)
  have HP1 := hide (HP.out.r.onG HP.out.t (by decide) (Ne.symm HP.out.ne) ho1)
  have HT1 := hide ht1
  have HO1 := hide ho1
  clear ht1 ho1
  refine hK.out _ _ (HX1.out) (fun hHeld => ?_)
  clear hK K
  try simp only [Act.put]
  try simp only [List.getElem_toArray]
  try simp only [List.getElem_cons_succ]
  try simp only [List.getElem_cons_zero]
  try simp only [List.setIfInBounds_toArray]
  try simp only [List.set_cons_succ, List.set_cons_zero]
  refine wpAnyH_ready (rs := [15]) (by kernel_rfl) (by simp) ?_
  refine AllReadyH.cons rfl (fun K hK => ?_) AllReadyH.nil
  go_simp
  refine (ropen_any (HP1.out) q.sl q.li q.se).mono ?_
  rintro e V2 ⟨rfl, ht2, ho2⟩
  rw [HEE.out]
  have HX2 := hide (Rx.onT HX1.out HP1.out ho2)
  have HT2 := hide ht2
  have HO2 := hide ho2
  clear ht2 ho2
  refine hK.out _ _ (HX2.out) (fun hHeld => ?_)
  clear hK K
  try simp only [Act.put]
  try simp only [List.getElem_toArray]
  try simp only [List.getElem_cons_succ]
  try simp only [List.getElem_cons_zero]
  try simp only [List.setIfInBounds_toArray]
  try simp only [List.set_cons_succ, List.set_cons_zero]
  refine wpAnyH_take (i := 16) (v := .bool true) rfl (by kernel_rfl) (by kernel_rfl) (by kernel_rfl) (fun _ _ _ h => h) (Or.inl ⟨by kernel_rfl, fun w1 hSw => by clear hHeld; obtain ⟨k0, k1, k2, k3, k4, k5, k6⟩ := HCe.out _ hSw; go_simp⟩) hHeld ?_
  try simp only [Act.put]
  try simp only [List.getElem_toArray]
  try simp only [List.getElem_cons_succ]
  try simp only [List.getElem_cons_zero]
  try simp only [List.setIfInBounds_toArray]
  try simp only [List.set_cons_succ, List.set_cons_zero]
  refine wpAnyH_take (i := 17) (v := .bool true) rfl (by kernel_rfl) (by kernel_rfl) (by kernel_rfl) (fun _ _ _ h => h) (Or.inl ⟨by kernel_rfl, fun w1 hSw => by clear hHeld; obtain ⟨k0, k1, k2, k3, k4, k5, k6⟩ := HCe.out _ hSw; go_simp⟩) hHeld ?_
  try simp only [Act.put]
  try simp only [List.getElem_toArray]
  try simp only [List.getElem_cons_succ]
  try simp only [List.getElem_cons_zero]
  try simp only [List.setIfInBounds_toArray]
  try simp only [List.set_cons_succ, List.set_cons_zero]
  refine wpAnyH_done (by kernel_rfl) ?_ _
  have HF : Hid (Pt B V2 (s.does q)) := hide (by
    rw [HD.out]
    exact ⟨HT1.out.onG HP1.out (by decide) HP.out.ne HO2.out, HT2.out, HP.out.ne, tOpen_ok HP.out.d _ _ _, tOpen_ok HP.out.e _ _ _, (HP.out.l.opn q.sl q.li q.se).2, by show 0 < (tOpen s.D q.sl q.li q.se).D.length; rw [tOpen_len]; exact HP.out.n1⟩)
  have HM : Hid (M2 s.g s.y w V2) := hide (((M2.of_below (by rw [HXX.out] at *; exact HB.out)).trans (M2.of_on1 HO1.out)).trans (M2.of_on2 HO2.out))
  clear HT1 HT2 HO1 HO2 HP1 HP hHeld HX1 HX2 HX
  go_wp2_with fail
  go_ret
  exact ⟨rfl, HF.out, HM.out⟩

set_option maxHeartbeats 4000000 in
set_option maxRecDepth 8000 in
theorem tells_4 {B : Nat} {w : World} {s : Sc} (h : Pt B w s) (q : Rw) (hn : I6 q.nu) (e1 : (q.k == 1) = false) (e2 : (q.k == 2) = false) (e3 : (q.k == 3) = false) (e4 : (q.k == 4) = true) : Calls Try.prog 18 #[.pointer (some ⟨s.b, 0, none⟩), .pointer (some ⟨s.x, 0, none⟩), .agg #[.int .i64 q.k, .int .i64 q.on, .int .i64 q.sl, .int .i64 q.li, .int .i64 q.se, .int .i64 q.nu, .string q.rp]] w (LPost B w s q) := by
  have HX : Hid (Rx (w.alloc (.cells #[.int .i64 q.k, .int .i64 q.on, .int .i64 q.sl, .int .i64 q.li, .int .i64 q.se, .int .i64 q.nu, .string q.rp] 56)) w.heap.size q) := hide (heap_alloc_new w _)
  have HP := hide (h.below (below_alloc w (.cells #[.int .i64 q.k, .int .i64 q.on, .int .i64 q.sl, .int .i64 q.li, .int .i64 q.se, .int .i64 q.nu, .string q.rp] 56)))
  have HB := hide (below_alloc w (.cells #[.int .i64 q.k, .int .i64 q.on, .int .i64 q.sl, .int .i64 q.li, .int .i64 q.se, .int .i64 q.nu, .string q.rp] 56))
  have HN := hide hn
  have HD : Hid (s.does q = s.ans q) := hide (by unfold Sc.does; rw [if_neg (by intro e; rw [e] at e2; cases e2), if_pos (by simpa using e4)])
  clear h hn
  go_enter Try.func18, Try.ntmps18
  go_wp2_with fail
  obtain ⟨X, hX⟩ : ∃ X, w.heap.size = X := ⟨_, rfl⟩
  rw [hX] at HX
  try rw [hX]
  have HXX := hide hX
  clear hX
  generalize w.alloc (.cells #[.int .i64 q.k, .int .i64 q.on, .int .i64 q.sl, .int .i64 q.li, .int .i64 q.se, .int .i64 q.nu, .string q.rp] 56) = W at *
  obtain ⟨ec, hec⟩ : ∃ ec, (tAnswer s.D q.sl q.rp).e = ec := ⟨_, rfl⟩
  have HEC := hide hec
  have HEE : Hid ((tAnswer s.E q.sl q.rp).e = ec) := hide (by rw [(HP.out.l.ans q.sl q.rp).1]; exact hec)
  clear hec
  have HCe : Hid (∀ V, Rx V X q → (V.cell? ⟨X, 0, none⟩ = some (.int .i64 q.k) ∧ V.cell? ⟨X, 1, none⟩ = some (.int .i64 q.on) ∧ V.cell? ⟨X, 2, none⟩ = some (.int .i64 q.sl) ∧ V.cell? ⟨X, 3, none⟩ = some (.int .i64 q.li) ∧ V.cell? ⟨X, 4, none⟩ = some (.int .i64 q.se) ∧ V.cell? ⟨X, 5, none⟩ = some (.int .i64 q.nu) ∧ V.cell? ⟨X, 6, none⟩ = some (.string q.rp))) := hide fun V hV => hV.cells
  have HP : Hid (Pt B W.drew s) := hide ⟨HP.out.t.drew, HP.out.r.drew, HP.out.ne, HP.out.d, HP.out.e, HP.out.l, HP.out.n1⟩
  have HB : Hid (Below w.heap.size w W.drew) := hide ⟨HB.out.os, HB.out.tape, HB.out.output, HB.out.size, HB.out.block⟩
  have nq : (ec == ec) = true := by simp
  refine wp_region_held_drew (S := fun w' => Rx w' X q) (by kernel_rfl) (HX.out) (fun hHeld => ?_)
  refine wpAnyH_take (i := 0) (v := .pointer (some ⟨s.b, 0, none⟩)) rfl (by kernel_rfl) (by kernel_rfl) (by kernel_rfl) (fun _ _ _ h => h) (Or.inl ⟨by kernel_rfl, fun w1 hSw => by clear hHeld; obtain ⟨k0, k1, k2, k3, k4, k5, k6⟩ := HCe.out _ hSw; go_simp⟩) hHeld ?_
  try simp only [Act.put]
  try simp only [List.getElem_toArray]
  try simp only [List.getElem_cons_succ]
  try simp only [List.getElem_cons_zero]
  try simp only [List.setIfInBounds_toArray]
  try simp only [List.set_cons_succ, List.set_cons_zero]
  refine wpAnyH_take (i := 1) (v := .pointer (some ⟨X, 2, none⟩)) rfl (by kernel_rfl) (by kernel_rfl) (by kernel_rfl) (fun _ _ _ h => h) (Or.inl ⟨by kernel_rfl, fun w1 hSw => by clear hHeld; obtain ⟨k0, k1, k2, k3, k4, k5, k6⟩ := HCe.out _ hSw; go_simp⟩) hHeld ?_
  try simp only [Act.put]
  try simp only [List.getElem_toArray]
  try simp only [List.getElem_cons_succ]
  try simp only [List.getElem_cons_zero]
  try simp only [List.setIfInBounds_toArray]
  try simp only [List.set_cons_succ, List.set_cons_zero]
  refine wpAnyH_take (i := 2) (v := .int .i64 q.sl) rfl (by kernel_rfl) (by kernel_rfl) (by kernel_rfl) (fun _ _ _ h => h) (Or.inl ⟨by kernel_rfl, fun w1 hSw => by clear hHeld; obtain ⟨k0, k1, k2, k3, k4, k5, k6⟩ := HCe.out _ hSw; go_simp⟩) hHeld ?_
  try simp only [Act.put]
  try simp only [List.getElem_toArray]
  try simp only [List.getElem_cons_succ]
  try simp only [List.getElem_cons_zero]
  try simp only [List.setIfInBounds_toArray]
  try simp only [List.set_cons_succ, List.set_cons_zero]
  refine wpAnyH_take (i := 3) (v := .pointer (some ⟨X, 6, none⟩)) rfl (by kernel_rfl) (by kernel_rfl) (by kernel_rfl) (fun _ _ _ h => h) (Or.inl ⟨by kernel_rfl, fun w1 hSw => by clear hHeld; obtain ⟨k0, k1, k2, k3, k4, k5, k6⟩ := HCe.out _ hSw; go_simp⟩) hHeld ?_
  try simp only [Act.put]
  try simp only [List.getElem_toArray]
  try simp only [List.getElem_cons_succ]
  try simp only [List.getElem_cons_zero]
  try simp only [List.setIfInBounds_toArray]
  try simp only [List.set_cons_succ, List.set_cons_zero]
  refine wpAnyH_take (i := 4) (v := .string q.rp) rfl (by kernel_rfl) (by kernel_rfl) (by kernel_rfl) (fun _ _ _ h => h) (Or.inl ⟨by kernel_rfl, fun w1 hSw => by clear hHeld; obtain ⟨k0, k1, k2, k3, k4, k5, k6⟩ := HCe.out _ hSw; go_simp⟩) hHeld ?_
  try simp only [Act.put]
  try simp only [List.getElem_toArray]
  try simp only [List.getElem_cons_succ]
  try simp only [List.getElem_cons_zero]
  try simp only [List.setIfInBounds_toArray]
  try simp only [List.set_cons_succ, List.set_cons_zero]
  refine wpAnyH_take (i := 6) (v := .pointer (some ⟨s.x, 0, none⟩)) rfl (by kernel_rfl) (by kernel_rfl) (by kernel_rfl) (fun _ _ _ h => h) (Or.inl ⟨by kernel_rfl, fun w1 hSw => by clear hHeld; obtain ⟨k0, k1, k2, k3, k4, k5, k6⟩ := HCe.out _ hSw; go_simp⟩) hHeld ?_
  try simp only [Act.put]
  try simp only [List.getElem_toArray]
  try simp only [List.getElem_cons_succ]
  try simp only [List.getElem_cons_zero]
  try simp only [List.setIfInBounds_toArray]
  try simp only [List.set_cons_succ, List.set_cons_zero]
  refine wpAnyH_take (i := 7) (v := .pointer (some ⟨X, 2, none⟩)) rfl (by kernel_rfl) (by kernel_rfl) (by kernel_rfl) (fun _ _ _ h => h) (Or.inl ⟨by kernel_rfl, fun w1 hSw => by clear hHeld; obtain ⟨k0, k1, k2, k3, k4, k5, k6⟩ := HCe.out _ hSw; go_simp⟩) hHeld ?_
  try simp only [Act.put]
  try simp only [List.getElem_toArray]
  try simp only [List.getElem_cons_succ]
  try simp only [List.getElem_cons_zero]
  try simp only [List.setIfInBounds_toArray]
  try simp only [List.set_cons_succ, List.set_cons_zero]
  refine wpAnyH_take (i := 8) (v := .int .i64 q.sl) rfl (by kernel_rfl) (by kernel_rfl) (by kernel_rfl) (fun _ _ _ h => h) (Or.inl ⟨by kernel_rfl, fun w1 hSw => by clear hHeld; obtain ⟨k0, k1, k2, k3, k4, k5, k6⟩ := HCe.out _ hSw; go_simp⟩) hHeld ?_
  try simp only [Act.put]
  try simp only [List.getElem_toArray]
  try simp only [List.getElem_cons_succ]
  try simp only [List.getElem_cons_zero]
  try simp only [List.setIfInBounds_toArray]
  try simp only [List.set_cons_succ, List.set_cons_zero]
  refine wpAnyH_take (i := 9) (v := .pointer (some ⟨X, 6, none⟩)) rfl (by kernel_rfl) (by kernel_rfl) (by kernel_rfl) (fun _ _ _ h => h) (Or.inl ⟨by kernel_rfl, fun w1 hSw => by clear hHeld; obtain ⟨k0, k1, k2, k3, k4, k5, k6⟩ := HCe.out _ hSw; go_simp⟩) hHeld ?_
  try simp only [Act.put]
  try simp only [List.getElem_toArray]
  try simp only [List.getElem_cons_succ]
  try simp only [List.getElem_cons_zero]
  try simp only [List.setIfInBounds_toArray]
  try simp only [List.set_cons_succ, List.set_cons_zero]
  refine wpAnyH_take (i := 10) (v := .string q.rp) rfl (by kernel_rfl) (by kernel_rfl) (by kernel_rfl) (fun _ _ _ h => h) (Or.inl ⟨by kernel_rfl, fun w1 hSw => by clear hHeld; obtain ⟨k0, k1, k2, k3, k4, k5, k6⟩ := HCe.out _ hSw; go_simp⟩) hHeld ?_
  try simp only [Act.put]
  try simp only [List.getElem_toArray]
  try simp only [List.getElem_cons_succ]
  try simp only [List.getElem_cons_zero]
  try simp only [List.setIfInBounds_toArray]
  try simp only [List.set_cons_succ, List.set_cons_zero]
  refine wpAnyH_ready (rs := [5]) (by kernel_rfl) (by simp) ?_
  refine AllReadyH.cons rfl (fun K hK => ?_) AllReadyH.nil
  go_simp
  refine (tans_any HP.out.t HP.out.d q.sl q.rp).mono ?_
  rintro e V1 ⟨rfl, ht1, ho1⟩
  rw [HEC.out]
  have HX1 := hide (Rx.onT hHeld HP.out.t ho1)
  have HP1 := hide (HP.out.r.onG HP.out.t (by decide) (Ne.symm HP.out.ne) ho1)
  have HT1 := hide ht1
  have HO1 := hide ho1
  clear ht1 ho1
  refine hK.out _ _ (HX1.out) (fun hHeld => ?_)
  clear hK K
  try simp only [Act.put]
  try simp only [List.getElem_toArray]
  try simp only [List.getElem_cons_succ]
  try simp only [List.getElem_cons_zero]
  try simp only [List.setIfInBounds_toArray]
  try simp only [List.set_cons_succ, List.set_cons_zero]
  refine wpAnyH_ready (rs := [11]) (by kernel_rfl) (by simp) ?_
  refine AllReadyH.cons rfl (fun K hK => ?_) AllReadyH.nil
  go_simp
  refine (rans_any (HP1.out) HP.out.e q.sl q.rp).mono ?_
  rintro e V2 ⟨rfl, ht2, ho2⟩
  rw [HEE.out]
  have HX2 := hide (Rx.onT HX1.out HP1.out ho2)
  have HT2 := hide ht2
  have HO2 := hide ho2
  clear ht2 ho2
  refine hK.out _ _ (HX2.out) (fun hHeld => ?_)
  clear hK K
  try simp only [Act.put]
  try simp only [List.getElem_toArray]
  try simp only [List.getElem_cons_succ]
  try simp only [List.getElem_cons_zero]
  try simp only [List.setIfInBounds_toArray]
  try simp only [List.set_cons_succ, List.set_cons_zero]
  refine wpAnyH_take (i := 12) (v := .bool true) rfl (by kernel_rfl) (by kernel_rfl) (by kernel_rfl) (fun _ _ _ h => h) (Or.inl ⟨by kernel_rfl, fun w1 hSw => by clear hHeld; obtain ⟨k0, k1, k2, k3, k4, k5, k6⟩ := HCe.out _ hSw; go_simp⟩) hHeld ?_
  try simp only [Act.put]
  try simp only [List.getElem_toArray]
  try simp only [List.getElem_cons_succ]
  try simp only [List.getElem_cons_zero]
  try simp only [List.setIfInBounds_toArray]
  try simp only [List.set_cons_succ, List.set_cons_zero]
  refine wpAnyH_take (i := 13) (v := .bool true) rfl (by kernel_rfl) (by kernel_rfl) (by kernel_rfl) (fun _ _ _ h => h) (Or.inl ⟨by kernel_rfl, fun w1 hSw => by clear hHeld; obtain ⟨k0, k1, k2, k3, k4, k5, k6⟩ := HCe.out _ hSw; go_simp⟩) hHeld ?_
  try simp only [Act.put]
  try simp only [List.getElem_toArray]
  try simp only [List.getElem_cons_succ]
  try simp only [List.getElem_cons_zero]
  try simp only [List.setIfInBounds_toArray]
  try simp only [List.set_cons_succ, List.set_cons_zero]
  refine wpAnyH_done (by kernel_rfl) ?_ _
  have HF : Hid (Pt B V2 (s.does q)) := hide (by
    rw [HD.out]
    exact ⟨HT1.out.onG HP1.out (by decide) HP.out.ne HO2.out, HT2.out, HP.out.ne, tAnswer_ok HP.out.d _ _, tAnswer_ok HP.out.e _ _, (HP.out.l.ans q.sl q.rp).2, by show 0 < (tAnswer s.D q.sl q.rp).D.length; rw [tAnswer_len]; exact HP.out.n1⟩)
  have HM : Hid (M2 s.g s.y w V2) := hide (((M2.of_below (by rw [HXX.out] at *; exact HB.out)).trans (M2.of_on1 HO1.out)).trans (M2.of_on2 HO2.out))
  clear HT1 HT2 HO1 HO2 HP1 HP hHeld HX1 HX2 HX
  go_wp2_with fail
  go_ret
  exact ⟨rfl, HF.out, HM.out⟩

theorem tells_any {B : Nat} {w : World} {s : Sc} (h : Pt B w s) (q : Rw) (hn : I6 q.nu) : Calls Try.prog 18 #[.pointer (some ⟨s.b, 0, none⟩), .pointer (some ⟨s.x, 0, none⟩), .agg #[.int .i64 q.k, .int .i64 q.on, .int .i64 q.sl, .int .i64 q.li, .int .i64 q.se, .int .i64 q.nu, .string q.rp]] w (LPost B w s q) := by
  cases e1 : q.k == 1 with
  | true => exact tells_1 h q hn e1
  | false => cases e2 : q.k == 2 with
    | true => exact tells_2 h q hn e1 e2
    | false => cases e3 : q.k == 3 with
      | true => exact tells_3 h q hn e1 e2 e3
      | false => cases e4 : q.k == 4 with
        | true => exact tells_4 h q hn e1 e2 e3 e4
        | false => exact tells_0 h q hn e1 e2 e3 e4

end Go.Proofs.Ytaikogbeaohmhaa
