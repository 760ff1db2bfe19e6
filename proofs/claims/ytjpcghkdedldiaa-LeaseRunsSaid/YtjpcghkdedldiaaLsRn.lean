import Derived.Test.YtjpcghkdedldiaaLsRf
namespace Go.Proofs.Ytjpcghkdedldiaa
open Go.RowKit

/-- how many of the first k run out -/
def nO (L : List Lz) (k : Nat) : Nat := (tkO (L.take k)).length
def nL (L : List Lz) (k : Nat) : Nat := (tkL (L.take k)).length
theorem tkO_append (A B : List Lz) : tkO (A ++ B) = tkO A ++ tkO B := by simp [tkO]
theorem tkL_append (A B : List Lz) : tkL (A ++ B) = tkL A ++ tkL B := by simp [tkL]
theorem tk_len (L : List Lz) : (tkO L).length + (tkL L).length = L.length := by
  induction L with
  | nil => rfl
  | cons x l ih =>
    have e1 : tkO (x :: l) = tkO [x] ++ tkO l := tkO_append [x] l
    have e2 : tkL (x :: l) = tkL [x] ++ tkL l := tkL_append [x] l
    have e3 : (tkO [x]).length + (tkL [x]).length = 1 := by
      by_cases h : 1 < x.left <;> simp [tkO, tkL, h]
    rw [e1, e2, List.length_append, List.length_append, List.length_cons]
    omega
theorem cut_at {L : List Lz} {k : Nat} (hk : k < L.length) : L = L.take k ++ (L[k] :: L.drop (k + 1)) := by
  rw [List.getElem_cons_drop, List.take_append_drop]
theorem over_at {L : List Lz} {k : Nat} (hk : k < L.length) (h : ¬ 1 < (L[k]).left) : nO L (k + 1) = nO L k + 1 ∧ nL L (k + 1) = nL L k ∧ ∃ h' : nO L k < (tkO L).length, (tkO L)[nO L k] = dec L[k] := by
  have e := cut_at hk
  have e1 : tkO [L[k]] = [dec L[k]] := by simp [tkO, h]
  have e2 : tkL [L[k]] = [] := by simp [tkL, h]
  have e3 : tkO L = tkO (L.take k) ++ (dec L[k] :: tkO (L.drop (k + 1))) := by
    conv => lhs; rw [e]
    rw [tkO_append, show L[k] :: L.drop (k + 1) = [L[k]] ++ L.drop (k + 1) from rfl, tkO_append, e1]
    rfl
  refine ⟨?_, ?_, ?_⟩
  · unfold nO; rw [List.take_succ_eq_append_getElem hk, tkO_append, e1, List.length_append]; rfl
  · unfold nL; rw [List.take_succ_eq_append_getElem hk, tkL_append, e2, List.append_nil]
  · refine ⟨by rw [e3, List.length_append, List.length_cons]; unfold nO; omega, ?_⟩
    simp only [e3, nO]
    rw [List.getElem_append_right (Nat.le_refl _)]
    simp
theorem live_at {L : List Lz} {k : Nat} (hk : k < L.length) (h : 1 < (L[k]).left) : nL L (k + 1) = nL L k + 1 ∧ nO L (k + 1) = nO L k ∧ ∃ h' : nL L k < (tkL L).length, (tkL L)[nL L k] = dec L[k] := by
  have e := cut_at hk
  have e1 : tkL [L[k]] = [dec L[k]] := by simp [tkL, h]
  have e2 : tkO [L[k]] = [] := by simp [tkO, h]
  have e3 : tkL L = tkL (L.take k) ++ (dec L[k] :: tkL (L.drop (k + 1))) := by
    conv => lhs; rw [e]
    rw [tkL_append, show L[k] :: L.drop (k + 1) = [L[k]] ++ L.drop (k + 1) from rfl, tkL_append, e1]
    rfl
  refine ⟨?_, ?_, ?_⟩
  · unfold nL; rw [List.take_succ_eq_append_getElem hk, tkL_append, e1, List.length_append]; rfl
  · unfold nO; rw [List.take_succ_eq_append_getElem hk, tkO_append, e2, List.append_nil]
  · refine ⟨by rw [e3, List.length_append, List.length_cons]; unfold nL; omega, ?_⟩
    simp only [e3, nL]
    rw [List.getElem_append_right (Nat.le_refl _)]
    simp

set_option maxRecDepth 100000 in
set_option maxHeartbeats 8000000 in
theorem leaseRuns_walk {w : World} {T : Int} {ad : Option Addr} {cap ab ao : Nat} {l : List Lo} (_ : -9223372036854775808 ≤ T ∧ T ≤ 9223372036854775807) (hO : Sr w ad ab ao l) (hl : l.length ≤ 2932031007402) (_ : ∀ i (h : i < l.length), I6 (l[i]).on ∧ I6 (l[i]).job) :
    Calls Try.prog 8 #[.int .i64 T, .slice ad l.length cap] w fun e w' => e = .returned (.bool true) ∧ Below w.heap.size w w' := by
  by_cases hT : 1 ≤ T ∧ T ≤ 256
  · obtain ⟨h1, h2⟩ := hT
    have HO := hide hO
    have HN := hide (new_ok h1 h2 w)
    clear hO h1 h2
    go_enter Try.func8, Try.ntmps8
    go_wp2_with fail
    refine HN.out.mono ?_
    rintro e w1 ⟨rfl, ht1, hb1⟩
    have HT1 : Hid (Tn w T [] w1) := ⟨ht1, hb1⟩
    clear ht1 hb1 HN
    go_wp2_with fail
    go_loopw [7] (fun s wr => ∃ (i : Nat) (L : List Lz), i ≤ l.length ∧ s = .int .i64 (i : Int) ∧ Hid (Tn w T L wr)) (fun s _ => l.length - (intOf s).toNat)
    case atStart => exact ⟨0, [], Nat.zero_le _, rfl, HT1⟩
    case round =>
      clear HT1
      obtain ⟨i, L, hi, rfl, HT⟩ := hrel
      by_cases hii : i < l.length
      · have hik : (i : Int) < (l.length : Int) := by omega
        have hat := HO.out.at_ (by omega)
        subst hat
        obtain ⟨q0, q1, q2, q3, q4, q5⟩ := (HO.out.below HT.out.low).six hii
        generalize l[i] = o at *
        by_cases hk3 : o.kind = 3
        · have b3 : (o.kind != 3) = false := by simpa using hk3
          clear hk3
          go_wp2_with fail
          refine (lall_any HT.out.ta.tb HT.out.ta.ok.len12 99).mono ?_
          rintro e w2 ⟨v2, rfl, ho2, hb2⟩
          rw [List.take_of_length_le (by have := HT.out.ta.ok.len; omega)] at ho2
          obtain ⟨ad2, cap2, hv2⟩ := own_slice ho2
          subst hv2
          obtain ⟨ab2, hR2, _⟩ := Rs.own ho2
          have HR2 := hide hR2
          have HT2 := hide (HT.out.below hb2)
          have hlL : L.length ≤ 8 := HT.out.ta.ok.len
          have HLE := hide (HT.out.ta.ok.left HT.out.ta.t2)
          clear ho2 hb2 hR2 HT q0 q1 q2 q3 q4 q5
          go_wp2_with fail
          refine (tick_ok HT2.out.ta).mono ?_
          rintro e w3 ⟨v3, rfl, ho3, ht3, hg3⟩
          obtain ⟨ad3, cap3, hv3⟩ := own_slice ho3
          subst hv3
          obtain ⟨ab3, hR3, _⟩ := Rs.own ho3
          have HR3 := hide hR3
          have HR23 := hide (rs_map HR2.out HT2.out.ta.tb.map.block hg3)
          have HT3 := hide (HT2.out.turn ht3 hg3)
          clear ho3 hR3 ht3 hg3 HT2 HR2
          go_wp2_with fail
          refine (lall_any HT3.out.ta.tb HT3.out.ta.ok.len12 99).mono ?_
          rintro e w4 ⟨v4, rfl, ho4, hb4⟩
          rw [List.take_of_length_le (by have := HT3.out.ta.ok.len; omega)] at ho4
          obtain ⟨ad4, cap4, hv4⟩ := own_slice ho4
          subst hv4
          obtain ⟨ab4, hR4, _⟩ := Rs.own ho4
          have HR4 := hide hR4
          have HR34 := hide (HR3.out.below hb4)
          have HR24 := hide (HR23.out.below hb4)
          have HT4 := hide (HT3.out.below hb4)
          have HTL := hide (tk_len L)
          have hlO : (tkO L).length ≤ 8 := by have := tk_len L; omega
          have hlM : (tkL L).length ≤ 8 := by have := tk_len L; omega
          have bs : (((tkO L).length : Int) + ((tkL L).length : Int) != (L.length : Int)) = false := by
            have := tk_len L
            simp
            omega
          clear ho4 hb4 hR4 HT3 HR3 HR23
          go_wp2_with fail
          go_loopw [13, 14, 15] (fun s1 s2 s3 wq => ∃ (k : Nat), k ≤ L.length ∧ s1 = .int .i64 (nO L k : Int) ∧ s2 = .int .i64 (nL L k : Int) ∧ s3 = .int .i64 (k : Int) ∧ Hid (nO L k ≤ k ∧ nL L k ≤ k) ∧ Hid (Tn w T (tkL L) wq ∧ Rs wq ad2 ab2 0 L ∧ Rs wq ad3 ab3 0 (tkO L) ∧ Rs wq ad4 ab4 0 (tkL L))) (fun _ _ s3 _ => L.length - (intOf s3).toNat)
          case atStart => exact ⟨0, Nat.zero_le _, rfl, rfl, rfl, ⟨Nat.le_refl _, Nat.le_refl _⟩, ⟨HT4.out, HR24.out, HR34.out, HR4.out⟩⟩
          case round =>
            clear HT4 HR24 HR34 HR4
            obtain ⟨k, hk, rfl, rfl, rfl, HNK, HK⟩ := hrel
            by_cases hkl : k < L.length
            · have hkk : (k : Int) < (L.length : Int) := by omega
              obtain ⟨hle1, hle2⟩ := HLE.out L[k] (List.getElem_mem hkl)
              have hat2 := HK.out.2.1.at_ (by omega)
              subst hat2
              obtain ⟨c0, c1, c2, c3, c4⟩ := HK.out.2.1.eight0 hkl
              by_cases hlv : 1 < (L[k]).left
              · obtain ⟨g1, g2, g3, g4⟩ := live_at hkl hlv
                have hx1 : ((nL L k : Nat) : Int) < ((tkL L).length : Int) := by omega
                have bq : ((L[k]).left - 1 == 0) = false := by simp; omega
                have HK5 : Hid (Tn w T (tkL L) (wr.alloc (dec L[k]).obj) ∧ Rs (wr.alloc (dec L[k]).obj) (some ⟨ab2, 0, none⟩) ab2 0 L ∧ Rs (wr.alloc (dec L[k]).obj) ad3 ab3 0 (tkO L) ∧ Rs (wr.alloc (dec L[k]).obj) ad4 ab4 0 (tkL L)) := ⟨HK.out.1.below (below_alloc _ _), HK.out.2.1.below (below_alloc _ _), HK.out.2.2.1.below (below_alloc _ _), HK.out.2.2.2.below (below_alloc _ _)⟩
                have hat3 := HK5.out.2.2.2.at_ (by omega)
                subst hat3
                obtain ⟨d0, d1, d2, d3, d4⟩ := HK5.out.2.2.2.eight0 g3
                rw [g4] at d0 d1 d2 d3 d4
                have HG1 : Hid (nO L (k + 1) = nO L k) := g2
                have HG2 : Hid (nL L (k + 1) = nL L k + 1) := g1
                obtain ⟨e0, e1, e2, e3, e4⟩ := five_of (heap_alloc_new wr (dec L[k]).obj)
                have hn := neqL_run (dec L[k]) (dec L[k])
                rw [decide_eq_true rfl] at hn
                have hgd := guardL
                have HNK5 := hide HNK.out
                simp only [dec] at d0 d1 d2 d3 d4 e0 e1 e2 e3 e4 hn HK5
                clear g1 g2 g4 HK HNK hlv
                generalize L[k] = x at *
                generalize nO L k = a at *
                generalize nL L k = c at *
                go_wp2_with fail
                clear c0 c1 c2 c3 c4
                generalize wr.alloc (.cells #[.int .i64 x.job, .int .i64 x.bdg, .int .i64 x.node, .int .i64 x.life, .int .i64 (x.left - 1)] 54) = W5 at *
                go_quiet (fail)
                have HK6 : Hid (Tn w T (tkL L) (W5.drewN nq) ∧ Rs (W5.drewN nq) (some ⟨ab2, 0, none⟩) ab2 0 L ∧ Rs (W5.drewN nq) ad3 ab3 0 (tkO L) ∧ Rs (W5.drewN nq) (some ⟨ab4, 0, none⟩) ab4 0 (tkL L)) := ⟨HK5.out.1.drewN nq, HK5.out.2.1.keep (fun _ => rfl), HK5.out.2.2.1.keep (fun _ => rfl), HK5.out.2.2.2.keep (fun _ => rfl)⟩
                have HB9 : Hid (a ≤ k ∧ c ≤ k) := HNK5.out
                have ha8 : a ≤ 8 := by have := HNK5.out; omega
                have hc8 : c ≤ 8 := by have := HNK5.out; omega
                clear HK5 HNK5 d0 d1 d2 d3 d4 e0 e1 e2 e3 e4
                go_wp2_with fail
                go_roundw
                case rel => exact ⟨k + 1, by omega, by rw [HG1.out], by rw [HG2.out]; go_num, by go_num, ⟨by rw [HG1.out]; have := HB9.out; omega, by rw [HG2.out]; have := HB9.out; omega⟩, HK6⟩
                case measure => simp only [intOf]; omega
              · obtain ⟨g1, g2, g3, g4⟩ := over_at hkl hlv
                have hx1 : ((nO L k : Nat) : Int) < ((tkO L).length : Int) := by omega
                have bq : ((L[k]).left - 1 == 0) = true := by simp; omega
                have HK5 : Hid (Tn w T (tkL L) (wr.alloc (dec L[k]).obj) ∧ Rs (wr.alloc (dec L[k]).obj) (some ⟨ab2, 0, none⟩) ab2 0 L ∧ Rs (wr.alloc (dec L[k]).obj) ad3 ab3 0 (tkO L) ∧ Rs (wr.alloc (dec L[k]).obj) ad4 ab4 0 (tkL L)) := ⟨HK.out.1.below (below_alloc _ _), HK.out.2.1.below (below_alloc _ _), HK.out.2.2.1.below (below_alloc _ _), HK.out.2.2.2.below (below_alloc _ _)⟩
                have hat3 := HK5.out.2.2.1.at_ (by omega)
                subst hat3
                obtain ⟨d0, d1, d2, d3, d4⟩ := HK5.out.2.2.1.eight0 g3
                rw [g4] at d0 d1 d2 d3 d4
                have HG1 : Hid (nO L (k + 1) = nO L k + 1) := g1
                have HG2 : Hid (nL L (k + 1) = nL L k) := g2
                obtain ⟨e0, e1, e2, e3, e4⟩ := five_of (heap_alloc_new wr (dec L[k]).obj)
                have hn := neqL_run (dec L[k]) (dec L[k])
                rw [decide_eq_true rfl] at hn
                have hgd := guardL
                have HNK5 := hide HNK.out
                simp only [dec] at d0 d1 d2 d3 d4 e0 e1 e2 e3 e4 hn HK5
                clear g1 g2 g4 HK HNK hlv
                generalize L[k] = x at *
                generalize nO L k = a at *
                generalize nL L k = c at *
                go_wp2_with fail
                clear c0 c1 c2 c3 c4
                generalize wr.alloc (.cells #[.int .i64 x.job, .int .i64 x.bdg, .int .i64 x.node, .int .i64 x.life, .int .i64 (x.left - 1)] 54) = W5 at *
                go_quiet (fail)
                have HK6 : Hid (Tn w T (tkL L) (W5.drewN nq) ∧ Rs (W5.drewN nq) (some ⟨ab2, 0, none⟩) ab2 0 L ∧ Rs (W5.drewN nq) (some ⟨ab3, 0, none⟩) ab3 0 (tkO L) ∧ Rs (W5.drewN nq) ad4 ab4 0 (tkL L)) := ⟨HK5.out.1.drewN nq, HK5.out.2.1.keep (fun _ => rfl), HK5.out.2.2.1.keep (fun _ => rfl), HK5.out.2.2.2.keep (fun _ => rfl)⟩
                have HB9 : Hid (a ≤ k ∧ c ≤ k) := HNK5.out
                have ha8 : a ≤ 8 := by have := HNK5.out; omega
                have hc8 : c ≤ 8 := by have := HNK5.out; omega
                clear HK5 HNK5 d0 d1 d2 d3 d4 e0 e1 e2 e3 e4
                go_wp2_with fail
                go_roundw
                case rel => exact ⟨k + 1, by omega, by rw [HG1.out]; go_num, by rw [HG2.out], by go_num, ⟨by rw [HG1.out]; have := HB9.out; omega, by rw [HG2.out]; have := HB9.out; omega⟩, HK6⟩
                case measure => simp only [intOf]; omega
            · have hkk : ¬ (k : Int) < (L.length : Int) := by omega
              have HT5 := hide HK.out.1
              clear HK
              go_wp2_with fail
              go_roundw
              case rel => exact ⟨i + 1, tkL L, by omega, by go_num, HT5⟩
              case measure => simp only [intOf]; omega
        · have b3 : (o.kind != 3) = true := by simpa using hk3
          clear hk3
          go_wp2_with fail
          refine (does_any HT.out.ta o).mono ?_
          rintro e w3 ⟨rfl, ht3, hg3⟩
          have HT3 := hide (HT.out.turn ht3 hg3)
          clear ht3 hg3 HT q0 q1 q2 q3 q4 q5
          generalize dsL T L o = L3 at *
          generalize dsB L o = d at *
          go_wp2_with fail
          go_roundw
          case rel => exact ⟨i + 1, L3, by omega, by go_num, HT3⟩
          case measure => simp only [intOf]; omega
      · have hik : ¬ (i : Int) < (l.length : Int) := by omega
        go_wp2_with fail
        refine (fixed_any _).mono ?_
        rintro e w6 ⟨rfl, hb6⟩
        go_wp2_with fail
        go_ret
        exact ⟨rfl, below_of HT.out.low hb6⟩
  · have HN := hide (new_no hT w)
    clear hO hT
    go_enter Try.func8, Try.ntmps8
    go_wp2_with fail
    refine HN.out.mono ?_
    rintro e w1 ⟨rfl, rfl⟩
    clear HN
    go_wp2_with fail
    refine (fixed_any _).mono ?_
    rintro e w6 ⟨rfl, hb6⟩
    go_wp2_with fail
    go_ret
    exact ⟨rfl, hb6⟩
end Go.Proofs.Ytjpcghkdedldiaa
