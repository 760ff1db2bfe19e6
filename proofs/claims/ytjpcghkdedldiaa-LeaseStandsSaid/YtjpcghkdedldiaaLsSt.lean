import Derived.Test.YtjpcghkdedldiaaLsRf
namespace Go.Proofs.Ytjpcghkdedldiaa
open Go.RowKit

theorem has_take {L : List Lz} {k : Nat} (hk : k < L.length) (g : Int) : has g (L.take (k + 1)) = (has g (L.take k) || (L[k]).bdg == g) := by
  rw [List.take_succ_eq_append_getElem hk]
  unfold has
  rw [List.any_append, List.any_cons, List.any_nil, Bool.or_false]
theorem has_here {L : List Lz} (h : Rise L) {k : Nat} (hk : k < L.length) : fnd (L[k]).bdg L = L[k] ∧ has (L[k]).bdg L = true :=
  ⟨fnd_at h (List.getElem_mem hk), has_iff.2 ⟨L[k], List.getElem_mem hk, rfl⟩⟩

set_option maxRecDepth 100000 in
set_option maxHeartbeats 8000000 in
theorem leaseStands_walk {w : World} {T : Int} {ad : Option Addr} {cap ab ao : Nat} {l : List Lo} (_ : -9223372036854775808 ≤ T ∧ T ≤ 9223372036854775807) (hO : Sr w ad ab ao l) (hl : l.length ≤ 2932031007402) (_ : ∀ i (h : i < l.length), I6 (l[i]).on ∧ I6 (l[i]).job) :
    Calls Try.prog 7 #[.int .i64 T, .slice ad l.length cap] w fun e w' => e = .returned (.bool true) ∧ Below w.heap.size w w' := by
  by_cases hT : 1 ≤ T ∧ T ≤ 256
  · obtain ⟨h1, h2⟩ := hT
    have HO := hide hO
    have HN := hide (new_ok h1 h2 w)
    clear hO h1 h2
    go_enter Try.func7, Try.ntmps7
    go_wp2_with fail
    refine HN.out.mono ?_
    rintro e w1 ⟨rfl, ht1, hb1⟩
    have HT1 : Hid (Tn w T [] w1) := ⟨ht1, hb1⟩
    clear ht1 hb1 HN
    go_wp2_with fail
    go_loopw [7] (fun s wr => ∃ (i : Nat) (L : List Lz), i ≤ l.length ∧ s = .int .i64 (i : Int) ∧ Hid (Tn w T L wr)) (fun s _ => l.length - (intOf s).toNat)
    case atStart => exact ⟨0, [], Nat.zero_le _, rfl, HT1⟩
    case round =>
      clear HT1
      obtain ⟨i, L0, hi, rfl, HT⟩ := hrel
      by_cases hii : i < l.length
      · have hik : (i : Int) < (l.length : Int) := by omega
        have hat := HO.out.at_ (by omega)
        subst hat
        obtain ⟨q0, q1, q2, q3, q4, q5⟩ := (HO.out.below HT.out.low).six hii
        have HQ : Hid (∀ W, Below w.heap.size w W → W.cell? ⟨ab, ao + i * 6 + 3, none⟩ = some (.int .i64 (l[i]).bdg)) := fun W hb => (HO.out.below hb).six hii |>.2.2.2.1
        generalize l[i] = o at *
        go_wp2_with fail
        refine (does_any HT.out.ta o).mono ?_
        rintro e w3 ⟨rfl, ht3, hg3⟩
        have HT3 := hide (HT.out.turn ht3 hg3)
        clear ht3 hg3 HT q0 q1 q2 q3 q4 q5
        generalize dsL T L0 o = L at *
        generalize dsB L0 o = d at *
        go_wp2_with fail
        refine (lall_any HT3.out.ta.tb HT3.out.ta.ok.len12 99).mono ?_
        rintro e w4 ⟨v4, rfl, ho4, hb4⟩
        rw [List.take_of_length_le (by have := HT3.out.ta.ok.len; omega)] at ho4
        obtain ⟨ad4, cap4, hv4⟩ := own_slice ho4
        subst hv4
        obtain ⟨ab4, hR4, _⟩ := Rs.own ho4
        have HR4 := hide hR4
        have HT4 := hide (HT3.out.below hb4)
        have hlL : L.length ≤ 8 := HT3.out.ta.ok.len
        have hl8 : ¬ (8 : Int) < (L.length : Int) := by omega
        have HOK := hide HT3.out.ta.ok
        clear ho4 hb4 hR4 HT3
        go_wp2_with fail
        go_loopw [10, 11] (fun s1 s2 wq => ∃ (k : Nat), k ≤ L.length ∧ s1 = .bool (has o.bdg (L.take k)) ∧ s2 = .int .i64 (k : Int) ∧ Hid (Tn w T L wq ∧ Rs wq ad4 ab4 0 L)) (fun _ s2 _ => L.length - (intOf s2).toNat)
        case atStart => exact ⟨0, Nat.zero_le _, rfl, rfl, ⟨HT4.out, HR4.out⟩⟩
        case round =>
          clear HT4 HR4
          obtain ⟨k, hk, rfl, rfl, HK⟩ := hrel
          by_cases hkl : k < L.length
          · have hkk : (k : Int) < (L.length : Int) := by omega
            have hat4 := HK.out.2.at_ (by omega)
            subst hat4
            obtain ⟨c0, c1, c2, c3, c4⟩ := HK.out.2.eight0 hkl
            obtain ⟨f1, f2⟩ := has_here HOK.out.rise hkl
            have HF := hide (find_ok HK.out.1.ta (L[k]).bdg)
            rw [f1, f2] at HF
            have HRG := hide (HOK.out.rng L[k] (List.getElem_mem hkl))
            have HTK := hide (has_take hkl o.bdg)
            have HRS : Hid (∀ j (hj : j < k), (L[j]'(by omega)).bdg < (L[k]).bdg) := fun j hj => List.pairwise_iff_getElem.1 HOK.out.rise j k (by omega) hkl hj
            have HJB : Hid (∀ j (hj : j < k), ((L[j]'(by omega)).job == (L[k]).job) = false) := fun j hj => by
              rw [beq_eq_false_iff_ne]
              intro e
              have e2 := HOK.out.jobs _ (List.getElem_mem (show j < L.length by omega)) _ (List.getElem_mem hkl) e
              have e3 := HRS.out j hj
              rw [e2] at e3
              omega
            have hn := neqL_run L[k] L[k]
            rw [decide_eq_true rfl] at hn
            have hgd := guardL
            clear f1 f2
            have HEQ : Hid (∀ W, Rs W (some ⟨ab4, 0, none⟩) ab4 0 L → W.cell? ⟨ab4, k * 5, none⟩ = some (.int .i64 (L[k]).job) ∧ W.cell? ⟨ab4, k * 5 + 1, none⟩ = some (.int .i64 (L[k]).bdg) ∧ W.cell? ⟨ab4, k * 5 + 2, none⟩ = some (.int .i64 (L[k]).node) ∧ W.cell? ⟨ab4, k * 5 + 3, none⟩ = some (.int .i64 (L[k]).life) ∧ W.cell? ⟨ab4, k * 5 + 4, none⟩ = some (.int .i64 (L[k]).left)) := fun W h => h.eight0 hkl
            generalize L[k] = x at *
            go_wp2_with fail
            refine HF.out.mono ?_
            rintro e w5 ⟨rfl, hb5⟩
            have HK5 : Hid (Tn w T L (w5.alloc x.obj) ∧ Rs (w5.alloc x.obj) (some ⟨ab4, 0, none⟩) ab4 0 L) := ⟨(HK.out.1.below hb5).below (below_alloc _ _), (HK.out.2.below hb5).below (below_alloc _ _)⟩
            obtain ⟨e0, e1, e2, e3, e4⟩ := five_of (heap_alloc_new w5 x.obj)
            clear hb5 HK HF c0 c1 c2 c3 c4
            go_wp2_with fail
            generalize w5.alloc x.obj = W5 at *
            generalize w5.heap.size = B5 at *
            obtain ⟨c0, c1, c2, c3, c4⟩ := HEQ.out W5 HK5.out.2
            have hr := HRG.out
            have b1 : decide (x.left < 1) = false := by simp; omega
            have b2 : decide (T < x.left) = false := by simp; omega
            --MID
            by_cases hk0 : 0 < k
            · have b5 : decide ((0 : Int) < (k : Int)) = true := by simp; omega
              have b6 : decide (0 < k) = true := by simpa using hk0
              obtain ⟨_, p1, _, _, _⟩ := HK5.out.2.eight0 (show k - 1 < L.length by omega)
              have b3 := HRS.out (k - 1) (by omega)
              have hkm : (k : Int) - 1 = ((k - 1 : Nat) : Int) := by omega
              generalize L[k - 1]'(by omega) = y at *
              have b4 : decide (x.bdg ≤ y.bdg) = false := by simp; omega
              obtain ⟨km, hkm2⟩ : ∃ km, km = k - 1 := ⟨_, rfl⟩
              rw [← hkm2] at p1 hkm
              have hkml : (km : Int) < (L.length : Int) := by omega
              have HKM := hide hkm2
              clear hkm2 b3 hk0 hr
              go_wp2_with fail
              go_quiet (fail)
              have HK6 : Hid (Tn w T L (W5.drewN nq) ∧ Rs (W5.drewN nq) (some ⟨ab4, 0, none⟩) ab4 0 L) := ⟨HK5.out.1.drewN nq, HK5.out.2.keep (fun _ => rfl)⟩
              clear HK5 c0 c1 c2 c3 c4 e0 e1 e2 e3 e4 b1 b2 p1 b4 b5 b6 hkm hkml
              go_wp2_with fail
              generalize W5.drewN nq = W6 at *
              go_loopw [14] (fun s wq => ∃ (j : Nat), j ≤ k ∧ s = .int .i64 (j : Int) ∧ Hid (Tn w T L wq ∧ Rs wq (some ⟨ab4, 0, none⟩) ab4 0 L)) (fun s _ => k - (intOf s).toNat)
              case atStart => exact ⟨0, Nat.zero_le _, rfl, HK6⟩
              case round =>
                clear HK6
                obtain ⟨j, hj, rfl, HJ⟩ := hrel
                by_cases hjk : j < k
                · have hjj : (j : Int) < (k : Int) := by omega
                  have hjL : (j : Int) < (L.length : Int) := by omega
                  obtain ⟨c0, _, _, _, _⟩ := HEQ.out wr HJ.out.2
                  obtain ⟨d0, _, _, _, _⟩ := HJ.out.2.eight0 (show j < L.length by omega)
                  have bj := HJB.out j hjk
                  generalize L[j]'(by omega) = y at *
                  go_wp2_with fail
                  go_quiet (fail)
                  have HJ2 : Hid (Tn w T L (wr.drewN nq) ∧ Rs (wr.drewN nq) (some ⟨ab4, 0, none⟩) ab4 0 L) := ⟨HJ.out.1.drewN nq, HJ.out.2.keep (fun _ => rfl)⟩
                  clear HJ c0 d0 bj
                  go_wp2_with fail
                  go_roundw
                  case rel => exact ⟨j + 1, by omega, by go_num, HJ2⟩
                  case measure => simp only [intOf]; omega
                · have hjj : ¬ (j : Int) < (k : Int) := by omega
                  obtain ⟨c0, c1, _, _, _⟩ := HEQ.out wr HJ.out.2
                  have q3 := HQ.out _ HJ.out.1.low
                  generalize has o.bdg (L.take k) = th at *
                  cases th
                  · go_wp2_with fail
                    go_quiet (fail)
                    have HJ2 : Hid (Tn w T L (wr.drewN nq) ∧ Rs (wr.drewN nq) (some ⟨ab4, 0, none⟩) ab4 0 L) := ⟨HJ.out.1.drewN nq, HJ.out.2.keep (fun _ => rfl)⟩
                    clear HJ c0 c1 q3
                    go_wp2_with fail
                    go_roundw
                    case rel => exact ⟨k + 1, by omega, by rw [HTK.out]; rfl, by go_num, HJ2⟩
                    case measure => simp only [intOf]; omega
                  · go_wp2_with fail
                    go_quiet (fail)
                    have HJ2 : Hid (Tn w T L (wr.drewN nq) ∧ Rs (wr.drewN nq) (some ⟨ab4, 0, none⟩) ab4 0 L) := ⟨HJ.out.1.drewN nq, HJ.out.2.keep (fun _ => rfl)⟩
                    clear HJ c0 c1 q3
                    go_wp2_with fail
                    go_roundw
                    case rel => exact ⟨k + 1, by omega, by rw [HTK.out]; rfl, by go_num, HJ2⟩
                    case measure => simp only [intOf]; omega
            · have b5 : decide ((0 : Int) < (k : Int)) = false := by simp; omega
              have b6 : decide (0 < k) = false := by simpa using hk0
              clear hk0 hr
              go_wp2_with fail
              go_quiet (fail)
              have HK6 : Hid (Tn w T L (W5.drewN nq) ∧ Rs (W5.drewN nq) (some ⟨ab4, 0, none⟩) ab4 0 L) := ⟨HK5.out.1.drewN nq, HK5.out.2.keep (fun _ => rfl)⟩
              clear HK5 c0 c1 c2 c3 c4 e0 e1 e2 e3 e4 b1 b2 b5 b6
              go_wp2_with fail
              generalize W5.drewN nq = W6 at *
              go_loopw [14] (fun s wq => ∃ (j : Nat), j ≤ k ∧ s = .int .i64 (j : Int) ∧ Hid (Tn w T L wq ∧ Rs wq (some ⟨ab4, 0, none⟩) ab4 0 L)) (fun s _ => k - (intOf s).toNat)
              case atStart => exact ⟨0, Nat.zero_le _, rfl, HK6⟩
              case round =>
                clear HK6
                obtain ⟨j, hj, rfl, HJ⟩ := hrel
                by_cases hjk : j < k
                · have hjj : (j : Int) < (k : Int) := by omega
                  have hjL : (j : Int) < (L.length : Int) := by omega
                  obtain ⟨c0, _, _, _, _⟩ := HEQ.out wr HJ.out.2
                  obtain ⟨d0, _, _, _, _⟩ := HJ.out.2.eight0 (show j < L.length by omega)
                  have bj := HJB.out j hjk
                  generalize L[j]'(by omega) = y at *
                  go_wp2_with fail
                  go_quiet (fail)
                  have HJ2 : Hid (Tn w T L (wr.drewN nq) ∧ Rs (wr.drewN nq) (some ⟨ab4, 0, none⟩) ab4 0 L) := ⟨HJ.out.1.drewN nq, HJ.out.2.keep (fun _ => rfl)⟩
                  clear HJ c0 d0 bj
                  go_wp2_with fail
                  go_roundw
                  case rel => exact ⟨j + 1, by omega, by go_num, HJ2⟩
                  case measure => simp only [intOf]; omega
                · have hjj : ¬ (j : Int) < (k : Int) := by omega
                  obtain ⟨c0, c1, _, _, _⟩ := HEQ.out wr HJ.out.2
                  have q3 := HQ.out _ HJ.out.1.low
                  generalize has o.bdg (L.take k) = th at *
                  cases th
                  · go_wp2_with fail
                    go_quiet (fail)
                    have HJ2 : Hid (Tn w T L (wr.drewN nq) ∧ Rs (wr.drewN nq) (some ⟨ab4, 0, none⟩) ab4 0 L) := ⟨HJ.out.1.drewN nq, HJ.out.2.keep (fun _ => rfl)⟩
                    clear HJ c0 c1 q3
                    go_wp2_with fail
                    go_roundw
                    case rel => exact ⟨k + 1, by omega, by rw [HTK.out]; rfl, by go_num, HJ2⟩
                    case measure => simp only [intOf]; omega
                  · go_wp2_with fail
                    go_quiet (fail)
                    have HJ2 : Hid (Tn w T L (wr.drewN nq) ∧ Rs (wr.drewN nq) (some ⟨ab4, 0, none⟩) ab4 0 L) := ⟨HJ.out.1.drewN nq, HJ.out.2.keep (fun _ => rfl)⟩
                    clear HJ c0 c1 q3
                    go_wp2_with fail
                    go_roundw
                    case rel => exact ⟨k + 1, by omega, by rw [HTK.out]; rfl, by go_num, HJ2⟩
                    case measure => simp only [intOf]; omega
          · have hkk : ¬ (k : Int) < (L.length : Int) := by omega
            obtain rfl : k = L.length := by omega
            rw [List.take_length]
            have q3 := HQ.out _ HK.out.1.low
            have bq : (has o.bdg L != has o.bdg L) = false := by simp
            have HF := hide (find_ok HK.out.1.ta o.bdg)
            generalize has o.bdg L = hb at *
            generalize fnd o.bdg L = y at *
            go_wp2_with fail
            refine HF.out.mono ?_
            rintro e w5 ⟨rfl, hb5⟩
            have HT5 := hide ((HK.out.1.below hb5).below (below_alloc w5 y.obj))
            clear hb5 HK HF q3
            go_wp2_with fail
            go_roundw
            case rel => exact ⟨i + 1, L, by omega, by go_num, HT5⟩
            case measure => simp only [intOf]; omega
      · have hik : ¬ (i : Int) < (l.length : Int) := by omega
        go_wp2_with fail
        refine (fixed_any _).mono ?_
        rintro e w6 ⟨rfl, hb6⟩
        go_wp2_with fail
        go_ret
        exact ⟨rfl, below_of HT.out.low hb6⟩
  · have HN := hide (new_no hT w)
    clear hO hT
    go_enter Try.func7, Try.ntmps7
    go_wp2_with fail
    refine HN.out.mono ?_
    rintro e w1 ⟨rfl, rfl⟩
    clear HN
    go_wp2_with fail
    refine (fixed_any _).mono ?_
    rintro e w6 ⟨rfl, hb6⟩
    go_wp2_with fail
    go_ret
    exact ⟨rfl, hb6⟩
end Go.Proofs.Ytjpcghkdedldiaa
