import Derived.Test.YtnhibcadenmglaaDkP
namespace Go.Proofs.Ytnhibcadenmglaa
open Go.RowKit

/-- what was written to k last -/
def lastW (k : Nat) (s : ByteArray) (R : List Wr) : ByteArray := R.foldl (fun s r => if r.sec = (k : Int) ∧ r.data.size = 128 then r.data else s) s
theorem DS.calm.get {d : DS} (h : d.calm) {j : Nat} (hj : j < d.S.length) (k : Int) (x : ByteArray) : (d.write k x).2.S.getD j ByteArray.empty = if k = (j : Int) ∧ x.size = 128 then x else d.S.getD j ByteArray.empty := by
  by_cases hk : 0 ≤ k ∧ k < (d.S.length : Int)
  · by_cases hx : x.size = 128
    · rw [DS.write_all h.live hk hx (by rw [h.un]; decide)]
      show (layS d.S k.toNat x).getD j ByteArray.empty = _
      by_cases he : k = (j : Int)
      · rw [if_pos ⟨he, hx⟩, he, Int.toNat_natCast, layS_get h.ok.s128 hj hx]
      · rw [if_neg (fun h => he h.1), layS_far (by omega)]
    · rw [DS.write_size h.live hk hx, if_neg (fun h => hx h.2)]
  · rw [DS.write_none h.live hk, if_neg (fun h => hk (by omega))]
theorem DS.calm.last {d : DS} (h : d.calm) {j : Nat} (hj : j < d.S.length) (R : List Wr) : (d.wrs R).S.getD j ByteArray.empty = lastW j (d.S.getD j ByteArray.empty) R := by
  induction R generalizing d with
  | nil => rfl
  | cons r R ih =>
    have := ih (h.write r.sec r.data) (by rw [d.write_slen]; exact hj)
    show ((d.write r.sec r.data).2.wrs R).S.getD j ByteArray.empty = _
    rw [this, h.get hj]
    rfl
theorem lastW_take {R : List Wr} {i : Nat} (h : i < R.length) (k : Nat) (s : ByteArray) : lastW k s (R.take (i + 1)) = if R[i].sec = (k : Int) ∧ R[i].data.size = 128 then R[i].data else lastW k s (R.take i) := by
  unfold lastW
  rw [List.take_succ_eq_append_getElem h, List.foldl_append]
  rfl

set_option maxHeartbeats 2000000 in
set_option maxRecDepth 8000 in
theorem diskLasts_walk {w : World} {ad ad2 : Option Addr} {ab ao cap ab2 ao2 cap2 : Nat} {l : List ByteArray} {R : List Wr} {n m : Int} (h : Rs w ad ab ao l) (h2 : Rw w ad2 ab2 ao2 R) (hl : l.length ≤ 8796093021952) (hR : R.length ≤ 5864062014634) (_ : -9223372036854775808 ≤ n ∧ n ≤ 9223372036854775807) (_ : -9223372036854775808 ≤ m ∧ m ≤ 9223372036854775807) :
    Calls Try.prog 7 #[.agg #[.slice ad l.length cap, .slice ad2 R.length cap2, .int .i64 n, .int .i64 m]] w fun e w' => e = .returned (.bool true) ∧ Below w.heap.size w w' := by
  obtain ⟨W0, hW0⟩ : ∃ W0, w.alloc (.cells #[.slice ad l.length cap, .slice ad2 R.length cap2, .int .i64 n, .int .i64 m] 42) = W0 := ⟨_, rfl⟩
  have hb0 : Below w.heap.size w W0 := by rw [← hW0]; exact (Below.refl _ w).alloc (Nat.le_refl _) _
  have hsz0 : W0.heap.size = w.heap.size + 1 := by rw [← hW0]; exact World.size_alloc _ _
  have hblk : W0.heap[w.heap.size]? = some (.cells #[.slice ad l.length cap, .slice ad2 R.length cap2, .int .i64 n, .int .i64 m] 42 (0, 0)) := by rw [← hW0]; exact heap_alloc_new w _
  have KC : Hid (∀ w1, Below W0.heap.size W0 w1 → w1.cell? ⟨w.heap.size, 0, none⟩ = some (.slice ad l.length cap) ∧ w1.cell? ⟨w.heap.size, 1, none⟩ = some (.slice ad2 R.length cap2)) := fun w1 hb => by
    have e := (hb.block _ (by omega)).trans hblk
    exact ⟨by simp [World.cell?, e], by simp [World.cell?, e]⟩
  have H0 := h.below hb0
  have H20 := h2.below hb0
  have HB0 := hide hb0
  have HSZ := hide hsz0
  by_cases hE : loadE l = 0
  · have HM := hide (made_yes (cap := cap) (cap2 := cap2) H0 H20 hE hR)
    have HCM := hide ((calm_fresh hE).wrs R)
    obtain ⟨c0, c1⟩ := KC.out W0 (Below.refl _ _)
    have hlast : ∀ j (hj : j < l.length), ((fresh l).wrs R).read (j : Int) = (lastW j l[j] R, 0) := by
      intro j hj
      have hs := (fresh l).wrs_slen R
      rw [DS.read_live HCM.out.live (by rw [hs]; show (0 : Int) ≤ _ ∧ _ < (l.length : Int); omega), Int.toNat_natCast, (calm_fresh hE).last hj]
      show (lastW j (l.getD j ByteArray.empty) R, (0 : Int)) = _
      rw [List.getD_eq_getElem?_getD, List.getElem?_eq_getElem hj]; rfl
    have HLA := hide hlast
    have HSL : Hid (((fresh l).wrs R).S.length = l.length) := (fresh l).wrs_slen R
    generalize (fresh l).wrs R = D at *
    clear h h2 hlast hsz0 hblk hE
    go_enter Try.func7, Try.ntmps7
    go_wp2_with fail
    clear hW0
    refine HM.out.mono ?_
    rintro e w1 ⟨b, F, rfl, hD, hb1⟩
    have HD := hide hD
    have HB1 := hide hb1
    clear c0 c1
    obtain ⟨c0, c1⟩ := KC.out w1 hb1
    have H1 := H0.below hb1
    have H2 := H20.below hb1
    clear hD hb1 H0 H20 HM
    have HRD := hide (fun j => read_any HD.out j)
    go_wp2
    go_loopw [6] (fun u wr => ∃ k : Nat, u = .int .i64 (k : Int) ∧ k ≤ l.length ∧ wr = w1) (fun u _ => (l.length - (intOf u).toNat))
    case atStart => exact ⟨0, rfl, Nat.zero_le _, rfl⟩
    case round =>
      obtain ⟨k, rfl, hk, e⟩ := hrel
      have e' := e.symm; subst e'; clear e
      by_cases hkl : k < l.length
      · have ea := H1.at_ (by omega)
        have cc := H1.cell k hkl
        subst ea
        go_wp2
        go_loopw [7, 8] (fun u v wr => ∃ i : Nat, u = .string (lastW k l[k] (R.take i)) ∧ v = .int .i64 (i : Int) ∧ i ≤ R.length ∧ wr = w1) (fun _ v _ => (R.length - (intOf v).toNat))
        case atStart => exact ⟨0, rfl, rfl, Nat.zero_le _, rfl⟩
        case round =>
          obtain ⟨i, rfl, rfl, hi, e⟩ := hrel
          have e' := e.symm; subst e'; clear e
          by_cases hil : i < R.length
          · have ea2 := H2.at_ (by omega)
            have d0 := H2.sec i hil
            have d1 := H2.data i hil
            have hlt := lastW_take hil k l[k]
            subst ea2
            generalize lastW k l[k] (R.take i) = P at *
            generalize hP2 : lastW k l[k] (R.take (i + 1)) = P2 at *
            have HP2 := hide hP2
            clear hP2
            generalize R[i].sec = x at *
            generalize R[i].data = y at *
            by_cases he : x = (k : Int)
            · by_cases hy : y.size = 128
              · rw [if_pos ⟨he, hy⟩] at hlt
                have HT := hide hlt
                have b0 : (x == (k : Int)) = true := by simpa using he
                clear hlt he
                go_wp2
                exact ⟨⟨i + 1, by rw [HP2.out, HT.out], by go_num, by omega, by trivial⟩, by simp [intOf]; omega⟩
              · rw [if_neg (fun h => hy h.2)] at hlt
                have HT := hide hlt
                have b0 : (x == (k : Int)) = true := by simpa using he
                have b1 : ((y.size : Int) == 128) = false := by simp; omega
                clear hlt he
                go_wp2
                exact ⟨⟨i + 1, by rw [HP2.out, HT.out], by go_num, by omega, by trivial⟩, by simp [intOf]; omega⟩
            · rw [if_neg (fun h => he h.1)] at hlt
              have HT := hide hlt
              have b0 : (x == (k : Int)) = false := by simpa using he
              clear hlt he
              go_wp2
              exact ⟨⟨i + 1, by rw [HP2.out, HT.out], by go_num, by omega, by trivial⟩, by simp [intOf]; omega⟩
          · obtain rfl : i = R.length := by omega
            rw [List.take_length]
            have hq := HRD.out (k : Int)
            rw [HLA.out k hkl] at hq
            have HQ := hide hq
            generalize lastW k l[k] R = P at *
            clear hq
            go_wp2_with (go_at_call 25; refine HQ.out.mono ?_; rintro e w2 ⟨rfl, rfl⟩)
            exact ⟨⟨k + 1, by go_num, by omega, by trivial⟩, by simp [intOf]; omega⟩
      · obtain rfl : k = l.length := by omega
        have HS := hide (size_any HD.out.drew)
        have HDE := hide (dead_any HD.out.drew)
        rw [HSL.out] at HS
        rw [HCM.out.live] at HDE
        have HFX := hide (fixed_true w1.drew)
        go_wp2_with fail
        first | (go_region_held3 (fun w' => w'.cell? ⟨w.heap.size, 0, none⟩ = some (.slice ad l.length cap)) (go_keep) (first
          | (go_at_call 26; refine HS.out.mono ?_; rintro e w2 ⟨rfl, rfl⟩)
          | (go_at_call 23; refine HDE.out.mono ?_; rintro e w2 ⟨rfl, rfl⟩)
          | (go_at_call 12; refine HFX.out.mono ?_; rintro e w3 ⟨rfl, hb3⟩; have HB3 := hide hb3; obtain ⟨k0, k1⟩ := KC.out w3 (HB1.out.trans (below_up (below_drew hb3) HB1.out.size)); clear hb3))) | fail
        go_wp2
        go_ret
        exact ⟨rfl, HB0.out.trans (below_up (HB1.out.trans (below_up (below_drew HB3.out) HB1.out.size)) (by have := HSZ.out; omega))⟩
  · have h9 : (loadE l == 0) = false := by simpa using hE
    have HM := hide (made_no (cap := cap) (v := .slice ad2 R.length cap2) H0 hE hl)
    have HN := hide (rload_no (cap := cap) H0 hE hl)
    have HFX := hide (fixed_true W0)
    obtain ⟨c0, c1⟩ := KC.out W0 (Below.refl _ _)
    generalize loadE l = E at *
    have h10 : (E != 0) = true := by simpa using hE
    clear h h2 hsz0 hblk
    go_enter Try.func7, Try.ntmps7
    go_wp2_with (first
      | (go_at_call 24; clear hW0; refine HM.out.mono ?_; rintro e w2 ⟨rfl, rfl⟩)
      | (go_at_call 14; refine HN.out.mono ?_; rintro e w2 ⟨rfl, rfl⟩)
      | (go_at_call 12; refine HFX.out.mono ?_; rintro e w3 ⟨rfl, hb3⟩; have HB3 := hide hb3; clear hb3))
    go_ret
    exact ⟨rfl, HB0.out.trans (below_up HB3.out (by have := HSZ.out; omega))⟩
end Go.Proofs.Ytnhibcadenmglaa
