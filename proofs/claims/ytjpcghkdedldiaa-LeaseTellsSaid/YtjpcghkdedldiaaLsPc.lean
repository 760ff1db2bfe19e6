import Derived.Test.YtjpcghkdedldiaaLsPb
namespace Go.Proofs.Ytjpcghkdedldiaa
open Go.RowKit

theorem Two.refl_below {m x : Nat} {w w' : World} (h : Below w.heap.size w w') : Two m x w w' := Two.of_below h

set_option maxRecDepth 100000 in
set_option maxHeartbeats 4000000 in
theorem answers_4 {w : World} {T : Int} {s : Sc} (h : Pr T w s) (o : Lo)  (hk : o.kind = 4) : Calls Try.prog 13 #[.agg #[.pointer (some ⟨s.b, 0, none⟩), .pointer (some ⟨s.x, 0, none⟩)], o.val] w fun e w' => e = .returned (.bool true) ∧ Pr T w' { s with L := dsL T s.L o } ∧ Two s.m s.x w w' := by
  have hltm := h.ta.tb.map.lt
  have hltx := h.xa.lt
  have HL : Hid (dsL T s.L o = s.L) := by show _ = _; unfold dsL; rw [if_neg (by rw [hk]; decide), if_neg (by rw [hk]; decide), if_neg (by rw [hk]; decide), if_neg (by rw [hk]; decide)]
  have n0 : (o.kind == 0) = false := by rw [hk]; decide
  have n1 : (o.kind == 1) = false := by rw [hk]; decide
  have n2 : (o.kind == 2) = false := by rw [hk]; decide
  have n3 : (o.kind == 3) = false := by rw [hk]; decide
  have n4 : (o.kind == 4) = true := by rw [hk]; decide
  have HBW : Hid (Below w.heap.size w ((w.alloc (.cells #[.pointer (some ⟨s.b, 0, none⟩), .pointer (some ⟨s.x, 0, none⟩)] 32)).alloc o.obj)) := (below_alloc w _).alloc (by simp) _
  have HP := hide (h.below HBW.out)
  have HBO := hide (bo_new w s o)
  clear h hk
  go_enter Try.func13, Try.ntmps13
  have oo1 := HBO.out.o1
  go_wp2_with fail
  clear oo1
  have hSZ : ((w.alloc (.cells #[.pointer (some ⟨s.b, 0, none⟩), .pointer (some ⟨s.x, 0, none⟩)] 32)).alloc o.obj).heap.size = w.heap.size + 2 := by simp
  generalize (w.alloc (.cells #[.pointer (some ⟨s.b, 0, none⟩), .pointer (some ⟨s.x, 0, none⟩)] 32)).alloc o.obj = W2 at *
  have a0 := HBO.out.p0
  have a3 := HBO.out.o3
  go_wp2_with fail
  refine (find_ok HP.out.ta o.bdg).mono ?_
  rintro e w3 ⟨rfl, hb3⟩
  have HB3 := hide (hb3)
  have HP4 := hide ((HP.out.below hb3).below (below_alloc w3 (fnd o.bdg s.L).obj))
  have HBO4 := hide ((HBO.out.below hb3).below (below_alloc w3 (fnd o.bdg s.L).obj))
  have HX4 := hide (heap_alloc_new w3 (fnd o.bdg s.L).obj)
  have HBB : Hid (Below W2.heap.size W2 (w3.alloc (fnd o.bdg s.L).obj)) := hb3.alloc hb3.size _
  clear hb3 a0 a3 HB3
  have hok := HP4.out.ta.ok.len12
  obtain ⟨y, hy⟩ : ∃ y, fnd o.bdg s.L = y := ⟨_, rfl⟩
  obtain ⟨hb, hhb⟩ : ∃ hb, has o.bdg s.L = hb := ⟨_, rfl⟩
  have HFX := hide (fun W (h : Xa W s.x T s.L) => xfind_ok h hok o.bdg)
  rw [hy, hhb] at HFX
  rw [hy] at HP4 HBO4 HX4 HBB ⊢
  rw [hhb]
  clear hy hhb hok
  have a1 := HBO4.out.p1
  have a3 := HBO4.out.o3
  go_wp2_with fail
  generalize w3.alloc y.obj = W4 at *
  generalize w3.heap.size = B4 at *
  refine (HFX.out _ HP4.out.xa).mono ?_
  rintro e w5 ⟨rfl, hb5⟩
  have HP6 := hide ((HP4.out.below hb5).below (below_alloc w5 y.obj))
  have hx6 : (w5.alloc y.obj).heap[B4]? = some y.obj := (Below.heap_alloc w5 _ _ (Nat.lt_of_lt_of_le (lt_of_block HX4.out) hb5.size)).trans ((hb5.block _ (lt_of_block HX4.out)).trans HX4.out)
  have hx7 := heap_alloc_new w5 y.obj
  have HB6 : Hid (Below w.heap.size w (w5.alloc y.obj)) := below_of HBW.out (below_of HBB.out (hb5.alloc hb5.size _))
  obtain ⟨e0, e1, e2, e3, e4⟩ := five_of hx6
  obtain ⟨f0, f1, f2, f3, f4⟩ := five_of hx7
  have hq := eqlL_run y y
  rw [decide_eq_true rfl] at hq
  have hgd := guardL
  have hbb : (hb == hb) = true := by simp
  clear hb5 hx6 hx7 a1 a3 HBO4 HX4 HP4
  go_wp2_with fail
  go_ret
  rw [HL.out]
  exact ⟨rfl, HP6.out, Two.of_below HB6.out⟩

set_option maxHeartbeats 1000000 in
theorem answers_6 {w : World} {T : Int} {s : Sc} (h : Pr T w s) (o : Lo) (hk : ¬ (0 ≤ o.kind ∧ o.kind ≤ 5)) : Calls Try.prog 13 #[.agg #[.pointer (some ⟨s.b, 0, none⟩), .pointer (some ⟨s.x, 0, none⟩)], o.val] w fun e w' => e = .returned (.bool true) ∧ Pr T w' { s with L := dsL T s.L o } ∧ Two s.m s.x w w' := by
  have HL : Hid (dsL T s.L o = s.L) := by show _ = _; unfold dsL; rw [if_neg (by omega), if_neg (by omega), if_neg (by omega), if_neg (by omega)]
  have n0 : (o.kind == 0) = false := by rw [beq_eq_false_iff_ne]; omega
  have n1 : (o.kind == 1) = false := by rw [beq_eq_false_iff_ne]; omega
  have n2 : (o.kind == 2) = false := by rw [beq_eq_false_iff_ne]; omega
  have n3 : (o.kind == 3) = false := by rw [beq_eq_false_iff_ne]; omega
  have n4 : (o.kind == 4) = false := by rw [beq_eq_false_iff_ne]; omega
  have n5 : (o.kind == 5) = false := by rw [beq_eq_false_iff_ne]; omega
  have HBW : Hid (Below w.heap.size w ((w.alloc (.cells #[.pointer (some ⟨s.b, 0, none⟩), .pointer (some ⟨s.x, 0, none⟩)] 32)).alloc o.obj)) := (below_alloc w _).alloc (by simp) _
  have HP := hide (h.below HBW.out)
  clear h hk
  go_enter Try.func13, Try.ntmps13
  go_wp2_with fail
  go_ret
  rw [HL.out]
  exact ⟨rfl, HP.out, Two.of_below HBW.out⟩
end Go.Proofs.Ytjpcghkdedldiaa
