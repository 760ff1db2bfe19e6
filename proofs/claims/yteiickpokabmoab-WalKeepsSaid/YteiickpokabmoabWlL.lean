import Derived.Test.YteiickpokabmoabWlK
namespace Go.Proofs.Yteiickpokabmoab
open Go.RowKit Go.Shelf
open Wl (Hd WS Log)

set_option maxHeartbeats 400000 in
set_option maxRecDepth 8000 in
theorem find_any {base : Nat} {w : World} {b : Nat} {F : Nat → Prop} {d : D.DS} (h : D.Dk base w b F d) (hd : d.dead = false) (hf : Wl.Fits d.S.length) :
    Calls Try.prog 29 #[.pointer (some ⟨b, 0, none⟩)] w (FPs w (Wl.find d.S)) := by
  have HDd := hide (D.dead_any (h.alloc (.cells zeroLog 63)))
  have HFi := hide (fits_any (h.alloc (.cells zeroLog 63)))
  rw [hd] at HDd
  rw [decide_eq_true hf] at HFi
  have HL : Hid (∀ W : World, Below w.heap.size w W → ∀ k : Nat, k < 2 → Calls Try.prog 43 #[.pointer (some ⟨b, 0, none⟩), .int .i64 (k : Int)] W (LPost W (Wl.logOf d.S k))) := hide fun W hW k hk => logOf_any (h.below hW) hd hf k hk
  rw [← bestN_two]
  generalize d.S = S at *
  clear h hd hf
  have HZ0 : Hid ((w.alloc (.cells zeroLog 63)).heap[w.heap.size]? = some (.cells zeroLog 63 (0, 0))) := hide (heap_alloc_new w _)
  have HQ0 : Hid (Best (w.heap.size + 2) (w.heap.size + 1) none ((w.alloc (.cells zeroLog 63)).alloc (.cells zeroLog 63))) := hide (by
    have := heap_alloc_new (w.alloc (.cells zeroLog 63)) (.cells zeroLog 63)
    rw [World.size_alloc] at this; exact this)
  unfold zeroLog at *
  go_enter Try.func29, Try.ntmps29
  go_wp2_with fail
  refine HDd.out.mono ?_
  rintro e w' ⟨rfl, rfl⟩
  go_wp2_with fail
  refine HFi.out.mono ?_
  rintro e w' ⟨rfl, rfl⟩
  go_wp2_with fail
  clear HDd HFi
  go_loopw [5, 19] (fun u t wr => ∃ k : Nat, k ≤ 2 ∧ u = .int .i64 (eO (bestN S k)) ∧ t = .int .i64 (k : Int) ∧ Hid (Best (w.heap.size + 2) (w.heap.size + 1) (bestN S k) wr) ∧ Hid (wr.heap[w.heap.size]? = some (.cells #[.int .u64 0, .int .u8 0, .int .i64 0, .int .i64 0, .string ⟨#[]⟩, .slice none 0 0] 63 (0, 0))) ∧ Hid (Below w.heap.size w wr)) (fun _ t _ => 2 - (intOf t).toNat)
  case atStart => exact ⟨0, Nat.zero_le _, rfl, rfl, HQ0, hide (box_al HZ0.out _), hide ((below_alloc w _).alloc (by simp) _)⟩
  case round =>
    obtain ⟨k, hk, rfl, rfl, HBt, HZ, HB⟩ := hrel
    have hqs : w.heap.size + 1 < wr.heap.size := by obtain ⟨_, _, _, _, _, _, hq⟩ := HBt.out.block; exact lt_of_block hq
    by_cases hkl : k < 2
    · have hki : (k : Int) < 2 := by omega
      have HLk := hide (HL.out wr HB.out k hkl)
      have hN : Hid (bestN S (k + 1) = match Wl.logOf S k with | none => bestN S k | some L => if numO (bestN S k) < L.h.num then some L else bestN S k) := hide rfl
      go_wp2_with fail
      refine HLk.out.mono ?_
      rintro e w2 ⟨hb2, hL⟩
      cases hlo : Wl.logOf S k with
      | none =>
        rw [hlo] at hL hN
        simp only at hL hN
        subst hL
        rw [← hN.out] at HBt
        have HBt2 := hide (HBt.out.below hb2)
        have HZ2 := hide (box_bl HZ.out hb2)
        have HB2 := hide (HB.out.trans (hb2.mono HB.out.size))
        have h2s := hb2.size
        rw [← hN.out]
        clear hb2 HLk hlo HBt HZ HB hN
        unfold zeroLog
        go_wp2_with fail
        go_roundw
        case rel => exact ⟨k + 1, by omega, rfl, rfl, hide (HBt2.out.below (below_alloc _ _)), hide (box_al HZ2.out _), hide (HB2.out.alloc (by omega) _)⟩
        case measure => simp only [intOf]; omega
      | some L =>
        have hnum := (logOf_num hlo).2
        obtain ⟨⟨num, half, sn, lg⟩, ss, l⟩ := L
        rw [hlo] at hL hN
        simp only at hL hN hnum
        obtain ⟨v, rfl, hO⟩ := hL
        obtain ⟨ad, cp, rfl⟩ := D.own_slice hO
        have hbn := bestN_num S k
        have HBt2 := hide (HBt.out.below hb2)
        have HZ2 := hide (box_bl HZ.out hb2)
        have HB2 := hide (HB.out.trans (hb2.mono HB.out.size))
        have h2s := hb2.size
        have cn := HBt2.out.num
        obtain ⟨qa, qb, qc, qd, qe, qf, hq⟩ := HBt2.out.block
        have HQ := hide (box_al hq (.cells #[.int .u64 (num : Int), .int .u8 (half : Int), .int .i64 (sn : Int), .int .i64 (lg : Int), .string ss, .slice ad l.length cp] 63))
        have HOw : Hid (w2.ownsRow (w.heap.size + 2) 9 1 (.slice ad l.length cp) l.length (l.map .string)) := hide (D.own_base hO (by omega))
        clear hb2 HLk hlo HBt HZ HB hq hO
        simp only [logC]
        by_cases hc : numO (bestN S k) < num
        · have b1 : decide (numO (bestN S k) < num) = true := decide_eq_true hc
          have HN2 : Hid (bestN S (k + 1) = some ⟨⟨num, half, sn, lg⟩, ss, l⟩) := hide (by rw [hN.out, if_pos hc])
          obtain ⟨q0, q1, q2, q3, q4, q5, qz⟩ := log_cells HQ.out
          have cn2 : (w2.alloc (.cells #[.int .u64 (num : Int), .int .u8 (half : Int), .int .i64 (sn : Int), .int .i64 (lg : Int), .string ss, .slice ad l.length cp] 63)).cell? ⟨w.heap.size + 1, 0, none⟩ = some (.int .u64 (numO (bestN S k) : Int)) := Lib.cell?_alloc_some _ cn
          have hqa : qa = .int .u64 (numO (bestN S k) : Int) := by rw [q0] at cn2; injection cn2
          subst hqa
          generalize numO (bestN S k) = bn at *
          clear hc hN cn cn2
          go_wp2_with fail
          go_roundw
          case rel =>
            refine ⟨k + 1, by omega, by rw [HN2.out]; rfl, rfl, hide ?_, hide ?_, hide ?_⟩
            · rw [HN2.out]
              refine ⟨_, set6 HQ.out, D.own_keep HOw.out fun j hj => ?_, fun h => ?_⟩
              · have := (own_lo HOw.out hj)
                rw [far6 (by omega)]; exact Below.heap_alloc _ _ _ this.2
              · have := (own_lo HOw.out h).1; omega
            · rw [far6 (by omega)]; exact box_al HZ2.out _
            · exact bel6 (HB2.out.alloc (by omega) _) (by omega) _ _ _ _ _ _
          case measure => simp only [intOf]; omega
        · have b1 : decide (numO (bestN S k) < num) = false := decide_eq_false hc
          have HN2 : Hid (bestN S (k + 1) = bestN S k) := hide (by rw [hN.out, if_neg hc])
          have cn2 : (w2.alloc (.cells #[.int .u64 (num : Int), .int .u8 (half : Int), .int .i64 (sn : Int), .int .i64 (lg : Int), .string ss, .slice ad l.length cp] 63)).cell? ⟨w.heap.size + 1, 0, none⟩ = some (.int .u64 (numO (bestN S k) : Int)) := Lib.cell?_alloc_some _ cn
          generalize numO (bestN S k) = bn at *
          clear hc hN cn HQ
          go_wp2_with fail
          go_roundw
          case rel => exact ⟨k + 1, by omega, by rw [HN2.out], rfl, hide (by rw [HN2.out]; exact HBt2.out.below (below_alloc _ _)), hide (box_al HZ2.out _), hide (HB2.out.alloc (by omega) _)⟩
          case measure => simp only [intOf]; omega
    · have hki : ¬ (k : Int) < 2 := by omega
      obtain rfl : k = 2 := by omega
      obtain ⟨z0, z1, z2, z3, z4, z5, zz⟩ := log_cells HZ.out
      have HBt2 := HBt.out
      cases hx : bestN S 2 with
      | none =>
        rw [hx] at HBt2
        obtain ⟨q0, q1, q2, q3, q4, q5, qz⟩ := log_cells (show wr.heap[w.heap.size + 1]? = some (.cells #[.int .u64 0, .int .u8 0, .int .i64 0, .int .i64 0, .string ⟨#[]⟩, .slice none 0 0] 63 (0, 0)) from HBt2)
        have HX := hide hx
        simp only [eO]
        clear HBt HBt2 hx
        go_wp2_with fail
        exact bodyPost_ret (v := .tuple #[.agg zeroLog, .int .i64 90]) (by simp [results, Try.results29, go_sem, z0, z1, z2, z3, z4, z5, zeroLog]) rfl ⟨bel6 HB.out (Nat.le_refl _) _ _ _ _ _ _, by rw [HX.out]⟩
      | some L =>
        rw [hx] at HBt2
        obtain ⟨⟨num, half, sn, lg⟩, ss, l⟩ := L
        obtain ⟨v, hv, hO, hne⟩ := HBt2
        obtain ⟨ad, cp, rfl⟩ := D.own_slice hO
        obtain ⟨q0, q1, q2, q3, q4, q5, qz⟩ := log_cells hv
        have HX := hide hx
        have HO := hide hO
        simp only [eO]
        clear HBt hx hv hO hne
        go_wp2_with fail
        exact bodyPost_ret (v := .tuple #[.agg #[.int .u64 (num : Int), .int .u8 (half : Int), .int .i64 (sn : Int), .int .i64 (lg : Int), .string ss, .slice ad l.length cp], .int .i64 0]) (by simp [results, Try.results29, go_sem, z0, z1, z2, z3, z4, z5]) rfl ⟨bel6 HB.out (Nat.le_refl _) _ _ _ _ _ _, by rw [HX.out]; exact ⟨ad, cp, rfl, D.own_base (D.own_keep HO.out fun j hj => far6 (by have := (own_lo HO.out hj).1; omega) _ _ _ _ _ _) (by omega)⟩⟩
end Go.Proofs.Yteiickpokabmoab
