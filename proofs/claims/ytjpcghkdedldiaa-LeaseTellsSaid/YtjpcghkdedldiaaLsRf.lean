import Derived.Test.YtjpcghkdedldiaaLsX
namespace Go.Proofs.Ytjpcghkdedldiaa
open Go.RowKit

/-- a table that was made since -/
structure Tn (w : World) (T : Int) (L : List Lz) (W : World) : Prop where
  ta : Ta W (w.heap.size + 1) w.heap.size T L
  low : Below w.heap.size w W
section
variable {w W W' : World} {T : Int} {L L' : List Lz}
theorem Tn.below (h : Tn w T L W) (hb : Below W.heap.size W W') : Tn w T L W' := ⟨h.ta.below hb, below_of h.low hb⟩
theorem Tn.turn (h : Tn w T L W) (ht : Ta W' (w.heap.size + 1) w.heap.size T L') (hg : W.grownBy W' (some w.heap.size)) : Tn w T L' W' := ⟨ht, h.low.grown hg h.low.size (fun k e => by cases e; exact Nat.le_refl _)⟩
theorem Tn.drewN (h : Tn w T L W) (n : Nat) : Tn w T L (W.drewN n) := ⟨h.ta.drewN n, below_drewN h.low n⟩
end
/-- a row of one's own, when a map turns -/
theorem rs_map {W W' : World} {ad : Option Addr} {ab m : Nat} {L : List Lz} (h : Rs W ad ab 0 L) (hm : ∃ es c, W.heap[m]? = some (.map es c)) (hg : W.grownBy W' (some m)) : Rs W' ad ab 0 L := h.keep fun h0 => hg.block _ (h.lt h0) (fun e => by
  injection e with e
  obtain ⟨es, c, h1⟩ := hm
  have h2 := h.c 0 h0 0 (by decide)
  unfold World.cell? at h2
  rw [show W.heap[ab]? = _ from e ▸ h1] at h2
  have h3 : ((L[0]'h0).cs)[0]? = some (.int .i64 (L[0]'h0).job) := rfl
  rw [h3] at h2
  simp at h2)

set_option maxRecDepth 100000 in
set_option maxHeartbeats 4000000 in
theorem leaseRefuses_walk {w : World} {T : Int} {ad : Option Addr} {cap ab ao : Nat} {l : List Lo} (_ : -9223372036854775808 ≤ T ∧ T ≤ 9223372036854775807) (hO : Sr w ad ab ao l) (hl : l.length ≤ 2932031007402) (_ : ∀ i (h : i < l.length), I6 (l[i]).on ∧ I6 (l[i]).job) :
    Calls Try.prog 6 #[.int .i64 T, .slice ad l.length cap] w fun e w' => e = .returned (.bool true) ∧ Below w.heap.size w w' := by
  by_cases hT : 1 ≤ T ∧ T ≤ 256
  · obtain ⟨h1, h2⟩ := hT
    have HO := hide hO
    have HN := hide (new_ok h1 h2 w)
    clear hO h1 h2
    go_enter Try.func6, Try.ntmps6
    go_wp2_with fail
    refine HN.out.mono ?_
    rintro e w1 ⟨rfl, ht1, hb1⟩
    have HT1 : Hid (Tn w T [] w1) := ⟨ht1, hb1⟩
    clear ht1 hb1 HN
    go_wp2_with fail
    go_loopw [7] (fun s wr => ∃ (i : Nat) (L : List Lz), i ≤ l.length ∧ s = .int .i64 (i : Int) ∧ Hid (Tn w T L wr)) (fun s _ => l.length - (intOf s).toNat)
    case atStart => exact ⟨0, [], Nat.zero_le _, rfl, HT1⟩
    case round =>
      clear HT1
      obtain ⟨i, L, hi, rfl, HT⟩ := hrel
      by_cases hii : i < l.length
      · have hik : (i : Int) < (l.length : Int) := by omega
        have hat := HO.out.at_ (by omega)
        subst hat
        go_wp2_with fail
        refine (lall_any HT.out.ta.tb HT.out.ta.ok.len12 99).mono ?_
        rintro e w2 ⟨v2, rfl, ho2, hb2⟩
        rw [List.take_of_length_le (by have := HT.out.ta.ok.len; omega)] at ho2
        obtain ⟨ad2, cap2, hv2⟩ := own_slice ho2
        subst hv2
        obtain ⟨ab2, hR2, _⟩ := Rs.own ho2
        have HR2 := hide hR2
        have HT2 := hide (HT.out.below hb2)
        clear ho2 hb2 hR2 HT
        obtain ⟨q0, q1, q2, q3, q4, q5⟩ := (HO.out.below HT2.out.low).six hii
        generalize l[i] = o at *
        go_wp2_with fail
        refine (does_any HT2.out.ta o).mono ?_
        rintro e w3 ⟨rfl, ht3, hg3⟩
        have HR3 := hide (rs_map HR2.out HT2.out.ta.tb.map.block hg3)
        have HT3 := hide (HT2.out.turn ht3 hg3)
        have HD : Hid (dsB L o = true → dsL T L o = L) := dsB_same
        clear ht3 hg3 HT2 HR2 q0 q1 q2 q3 q4 q5
        generalize dsL T L o = L3 at *
        generalize dsB L o = d at *
        go_wp2_with fail
        refine (lall_any HT3.out.ta.tb HT3.out.ta.ok.len12 99).mono ?_
        rintro e w4 ⟨v4, rfl, ho4, hb4⟩
        rw [List.take_of_length_le (by have := HT3.out.ta.ok.len; omega)] at ho4
        obtain ⟨ad4, cap4, hv4⟩ := own_slice ho4
        subst hv4
        obtain ⟨ab4, hR4, _⟩ := Rs.own ho4
        have HR4 := hide hR4
        have HR24 := hide (HR3.out.below hb4)
        have HT4 := hide (HT3.out.below hb4)
        have hl4 : L3.length ≤ 8 := HT3.out.ta.ok.len
        clear ho4 hb4 hR4 HT3 HR3
        cases d
        · go_wp2_with fail
          go_roundw
          case rel => exact ⟨i + 1, L3, by omega, by go_num, HT4⟩
          case measure => simp only [intOf]; omega
        · have hLe := HD.out rfl
          subst hLe
          go_wp2_with fail
          refine (same_self HR24.out HR4.out (by omega)).mono ?_
          rintro e w5 ⟨rfl, hb5⟩
          have HT5 := hide (HT4.out.below hb5)
          clear hb5 HT4 HR24 HR4
          go_wp2_with fail
          go_roundw
          case rel => exact ⟨i + 1, L3, by omega, by go_num, HT5⟩
          case measure => simp only [intOf]; omega
      · have hik : ¬ (i : Int) < (l.length : Int) := by omega
        go_wp2_with fail
        refine (fixed_any _).mono ?_
        rintro e w6 ⟨rfl, hb6⟩
        go_wp2_with fail
        go_ret
        exact ⟨rfl, below_of HT.out.low hb6⟩
  · have HN := hide (new_no hT w)
    clear hO hT
    go_enter Try.func6, Try.ntmps6
    go_wp2_with fail
    refine HN.out.mono ?_
    rintro e w1 ⟨rfl, rfl⟩
    clear HN
    go_wp2_with fail
    refine (fixed_any _).mono ?_
    rintro e w6 ⟨rfl, hb6⟩
    go_wp2_with fail
    go_ret
    exact ⟨rfl, hb6⟩
end Go.Proofs.Ytjpcghkdedldiaa
