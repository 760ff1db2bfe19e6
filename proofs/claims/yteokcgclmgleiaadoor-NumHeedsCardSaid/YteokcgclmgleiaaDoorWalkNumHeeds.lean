import Derived.Test.YteokcgclmgleiaaDoorHeedW
import Derived.Test.YteokcgclmgleiaaDoorWalkJ
import Derived.Test.YteokcgclmgleiaaDoorFrame
import Derived.Deep.DeepCutAuto
import Derived.Deep.CutBlock
namespace Go.Proofs.YteokcgclmgleiaaDoor
open Go.RowKit Go.ChangeAt

theorem tab64_below {a b : World} (h : Tab64 a) (k : Below a.heap.size a b) : Tab64 b := fun j hj => (k.cell (p := ⟨1, j, none⟩) (World.block_lt_of_cell? _ _ (h j hj))).trans (h j hj)
theorem zs64_is : ∀ j : Fin 64, zs64.getD j.val 0 = ((Lib.deBruijn64tab.getD j.val 0 : Nat) : Int) := by decide
theorem tab64_of {W : World} (h : laidMetH Tryd.prog laidL W) : Tab64 W := fun j hj => by
  have h64 : j < 64 := hj
  have h1 := (tab_of h).cell g64 j (show j < zs64.length from h64)
  rw [zs64_is ⟨j, h64⟩] at h1
  exact h1
theorem g10 : Tryd.prog.globalNamed "internal/strconv.uint64pow10" = some 5 := by kernel_rfl
theorem tab10_of {W : World} (h : laidMetH Tryd.prog laidL W) : Tab10 W := by
  rw [MakeChecks.laidMetH_plain _ _ _ (by kernel_rfl)] at h
  exact Lib.tabIs_of_head (zs := Lib.pow10Tab) g10 (by kernel_rfl) Tryd.underlying94 Tryd.underlying22 (by kernel_rfl) (by kernel_rfl) (laidMet.tail (laidMet.tail h))

theorem Nine.drew {W : World} {H K : Nat} (h : Nine W H K) (n : Nat) : Nine (W.drewN n) H K := ⟨fun i hi => h.at' i hi⟩
theorem push_at (H : Array Obj) (o o' : Obj) : ((H.push o).push o')[H.size]? = some o := by simp [Array.getElem?_push]
theorem push_at1 (H : Array Obj) (o o' : Obj) : ((H.push o).push o')[H.size + 1]? = some o' := by rw [show H.size + 1 = (H.push o).size by simp, Array.getElem?_push_size]
set_option maxHeartbeats 1000000 in
set_option maxRecDepth 8000 in
theorem numHeeds_walk (a : Nat) (ha : a < 18446744073709551616) (b : Nat) (hb : b < 18446744073709551616) (w : World) (hT : TabC w) (h64 : Tab64 w) (h10 : Tab10 w) :
    Calls Tryd.prog 4 #[.int .u64 (a : Int), .int .u64 (b : Int)] w fun e w' => e = .returned (.bool true) ∧ Below w.heap.size w w' := by
  have HTC := Lib.hid hT
  have H64 := Lib.hid h64
  have H10 := Lib.hid h10
  have HCa := Lib.hid (canon_any a ha)
  have HCb := Lib.hid (canon_any b hb)
  have C1 := Lib.hid (calls9 a b ha hb)
  have C2 := Lib.hid (calls9c a b ha hb)
  have CV := Lib.hid (canons a b ha hb)
  have HTx : Hid (∀ w, Tab64 w → Tab10 w → Calls Tryd.prog 6 #[.int .u64 (a : Int)] w fun e w' => e = .returned (.string (textB a)) ∧ Below w.heap.size w w') := text_any a ha
  have HTy : Hid (∀ w, Tab64 w → Tab10 w → Calls Tryd.prog 6 #[.int .u64 (Gn.canonW a : Int)] w fun e w' => e = .returned (.string (textB a)) ∧ Below w.heap.size w w') := fun w k1 k2 => by have := text_any (Gn.canonW a) (Gn.canon_lt a ha) w k1 k2; rw [heed_text] at this; exact this
  have HO := Lib.hid (order_any a b ha hb)
  have HO2 : Hid (∀ w : World, Calls Tryd.prog 19 #[.int .u64 (Gn.canonW a : Int), .int .u64 (Gn.canonW b : Int)] w fun e w' => e = .returned (.int .i64 (ordW a b)) ∧ w' = w) := fun w => by have := order_any (Gn.canonW a) (Gn.canonW b) (Gn.canon_lt a ha) (Gn.canon_lt b hb) w; rw [heed_ord] at this; exact this
  have HL := Lib.hid (class_any a ha)
  have HL2 : Hid (∀ w : World, Calls Tryd.prog 18 #[.int .u64 (Gn.canonW a : Int)] w fun e w' => e = .returned (.int .i64 (clsN a : Int)) ∧ w' = w) := fun w => by have := class_any (Gn.canonW a) (Gn.canon_lt a ha) w; rw [heed_cls] at this; exact this
  clear hT h64 h10 ha hb
  generalize Gn.canonW a = x at *
  generalize Gn.canonW b = y at *
  generalize textB a = s at *
  generalize ordW a b = od at *
  generalize clsN a = cl at *
  generalize Gn.addW a b = v0 at *
  generalize Gn.subW a b = v1 at *
  generalize Gn.mulW a b = v2 at *
  generalize Gn.divW a b = v3 at *
  generalize minW a b = v4 at *
  generalize maxW a b = v5 at *
  generalize Gn.negW a = v6 at *
  generalize Gn.absW a = v7 at *
  generalize floorW a = v8 at *
  go_enter Tryd.func4, Tryd.ntmps4
  go_wp2_with fail
  refine (HCa.out _).mono ?_
  rintro e w0 ⟨rfl, rfl⟩
  go_wp2_with fail
  refine (HCb.out _).mono ?_
  rintro e w1 ⟨rfl, rfl⟩
  go_wp2_with fail
  refine (C1.out.k0 _).mono ?_
  rintro e w' ⟨rfl, nC1_k0, rfl⟩
  go_wp2_with fail
  refine (C1.out.k1 _).mono ?_
  rintro e w' ⟨rfl, nC1_k1, rfl⟩
  go_wp2_with fail
  refine (C1.out.k2 _).mono ?_
  rintro e w' ⟨rfl, nC1_k2, rfl⟩
  go_wp2_with fail
  refine (C1.out.k3 _).mono ?_
  rintro e w' ⟨rfl, nC1_k3, rfl⟩
  go_wp2_with fail
  refine (C1.out.k4 _).mono ?_
  rintro e w' ⟨rfl, rfl⟩
  go_wp2_with fail
  refine (C1.out.k5 _).mono ?_
  rintro e w' ⟨rfl, rfl⟩
  go_wp2_with fail
  refine (C1.out.k6 _).mono ?_
  rintro e w' ⟨rfl, rfl⟩
  go_wp2_with fail
  refine (C1.out.k7 _).mono ?_
  rintro e w' ⟨rfl, rfl⟩
  go_wp2_with fail
  refine (C1.out.k8 _).mono ?_
  rintro e w' ⟨rfl, nC1_k8, rfl⟩
  go_wp2_with fail
  refine (C2.out.k0 _).mono ?_
  rintro e w' ⟨rfl, nC2_k0, rfl⟩
  go_wp2_with fail
  refine (C2.out.k1 _).mono ?_
  rintro e w' ⟨rfl, nC2_k1, rfl⟩
  go_wp2_with fail
  refine (C2.out.k2 _).mono ?_
  rintro e w' ⟨rfl, nC2_k2, rfl⟩
  go_wp2_with fail
  refine (C2.out.k3 _).mono ?_
  rintro e w' ⟨rfl, nC2_k3, rfl⟩
  go_wp2_with fail
  refine (C2.out.k4 _).mono ?_
  rintro e w' ⟨rfl, rfl⟩
  go_wp2_with fail
  refine (C2.out.k5 _).mono ?_
  rintro e w' ⟨rfl, rfl⟩
  go_wp2_with fail
  refine (C2.out.k6 _).mono ?_
  rintro e w' ⟨rfl, rfl⟩
  go_wp2_with fail
  refine (C2.out.k7 _).mono ?_
  rintro e w' ⟨rfl, rfl⟩
  go_wp2_with fail
  refine (C2.out.k8 _).mono ?_
  rintro e w' ⟨rfl, nC2_k8, rfl⟩
  go_wp2_with fail
  go_loopw [9] (fun u wr => ∃ i : Nat, u = .int .i64 (i : Int) ∧ i ≤ 9 ∧ Hid (Nine wr w1.heap.size (w1.heap.size + 1)) ∧ Hid (Below w1.heap.size w1 wr)) (fun u _ => (9 - (intOf u).toNat))
  case atStart =>
    refine ⟨0, rfl, by omega, ?_, ?_⟩
    · exact nine_of v0 v1 v2 v3 v4 v5 v6 v7 v8 22 (push_at w1.heap _ _) (push_at1 w1.heap _ _) CV.out
    · exact (((bd w1 _).alloc (Nat.le_refl _) _).trans ((bd _ _).mono (by simp))).alloc (by simp) _
  case round =>
    obtain ⟨i, rfl, hi, HN, HB⟩ := hrel
    by_cases hil : i < 9
    · obtain ⟨v, c0, c1, hc, hv⟩ := HN.out.at' i hil
      have HCv := Lib.hid (canon_any v hv)
      have HLv := Lib.hid (class_any v hv)
      rw [hc] at HCv
      by_cases hz : clsN v = 0
      · obtain rfl := canon_word v hc hz
        rw [hz] at HLv
        clear hz hc hv
        go_wp2_with fail
        go_quiet (first | (go_at_call 8; exact Calls.quiet_of_same (HCv.out _)) | (go_at_call 18; exact Calls.quiet_of_same (HLv.out _)))
        go_wp2_with fail
        exact ⟨⟨i + 1, by go_num, by omega, HN.out.drew _, HB.out.trans ((bd _ _).mono HB.out.size)⟩, by simp [intOf]; omega⟩
      · have hn : ((clsN v : Int) == 0) = false := beqN_f (y := 0) hz
        clear hz hc
        generalize clsN v = cv at *
        go_wp2_with fail
        go_quiet (first | (go_at_call 8; exact Calls.quiet_of_same (HCv.out _)) | (go_at_call 18; exact Calls.quiet_of_same (HLv.out _)))
        go_wp2_with fail
        exact ⟨⟨i + 1, by go_num, by omega, HN.out.drew _, HB.out.trans ((bd _ _).mono HB.out.size)⟩, by simp [intOf]; omega⟩
    · obtain rfl : i = 9 := by omega
      go_wp2_with fail
      refine (awake_true _ (tab_below HTC.out (tab_size HTC.out) HB.out)).mono ?_
      rintro e w2 ⟨rfl, hb2⟩
      have HB2 := Lib.hid (HB.out.trans (hb2.mono HB.out.size))
      clear hb2
      go_wp2_with fail
      refine (HTx.out _ (tab64_below H64.out HB2.out) (tab10_below H10.out HB2.out)).mono ?_
      rintro e w3 ⟨rfl, hb3⟩
      have HB3 := Lib.hid (HB2.out.trans (hb3.mono HB2.out.size))
      clear hb3
      go_wp2_with fail
      refine (HTy.out _ (tab64_below H64.out HB3.out) (tab10_below H10.out HB3.out)).mono ?_
      rintro e w4 ⟨rfl, hb4⟩
      have HB4 := Lib.hid (HB3.out.trans (hb4.mono HB3.out.size))
      clear hb4
      go_wp2_with fail
      refine (HO.out _).mono ?_
      rintro e w5 ⟨rfl, e5⟩
      subst e5
      go_wp2_with fail
      refine (HO2.out _).mono ?_
      rintro e w6 ⟨rfl, e6⟩
      subst e6
      go_wp2_with fail
      refine (HL.out _).mono ?_
      rintro e w7 ⟨rfl, e7⟩
      subst e7
      go_wp2_with fail
      refine (HL2.out _).mono ?_
      rintro e w8 ⟨rfl, e8⟩
      subst e8
      go_wp2_with fail
      go_ret
      exact ⟨rfl, HB4.out⟩
end Go.Proofs.YteokcgclmgleiaaDoor
