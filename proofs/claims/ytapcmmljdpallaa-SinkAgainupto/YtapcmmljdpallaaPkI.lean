import Derived.Test.YtapcmmljdpallaaPkH
import Derived.Deep.RegionHeld3
namespace Go.Proofs.Ytapcmmljdpallaa
open Go.RowKit

theorem count_ok {w : World} {B p n m : Nat} {most : Int} {b : ByteArray} (h : Rd w B b p 0) (hp : p ≤ b.size) (hb : b.size ≤ 140737488351232) (hm : most ≤ 9223372036854775807)
    (hD : Pk.dec 0 0 (rest b p) = (0, n, m)) (hn : n ≤ most.toNat) :
    Calls Try.prog 90 #[.pointer (some ⟨B, 0, none⟩), .int .i64 most] w fun e w' => e = .returned (.int .i64 (n : Int)) ∧ Rd w' B b ((p + m : Nat) : Int) 0 ∧ w.grownBy w' (some B) := by
  refine (count_any h hp hb hm).mono ?_
  rintro e w' (⟨n', m', hD', hn', rfl, hR, hg⟩ | ⟨n', m', hD', hn', he, hR, hg⟩ | ⟨k, hk, hD', he, hR, hg⟩)
  · rw [hD] at hD'
    injection hD' with _ e2
    injection e2 with e3 e4
    subst e3; subst e4
    exact ⟨rfl, hR, hg⟩
  · rw [hD] at hD'
    injection hD' with _ e2
    injection e2 with e3 e4
    omega
  · rw [hD] at hD'
    injection hD' with e1 _
    exact absurd e1.symm hk
theorem count_no {w : World} {B p : Nat} {most : Int} {b : ByteArray} (h : Rd w B b p 0) (hp : p ≤ b.size) (hb : b.size ≤ 140737488351232) (hm : most ≤ 9223372036854775807) (hk : numK b p most.toNat 23 ≠ 0) :
    Calls Try.prog 90 #[.pointer (some ⟨B, 0, none⟩), .int .i64 most] w fun e w' => Gives e (numK b p most.toNat 23) ∧ (∃ q : Int, Rd w' B b q 0) ∧ w.grownBy w' (some B) := by
  refine (count_any h hp hb hm).mono ?_
  rintro e w' (⟨n', m', hD', hn', rfl, hR, hg⟩ | ⟨n', m', hD', hn', he, hR, hg⟩ | ⟨k, hk, hD', he, hR, hg⟩)
  · exact absurd (numK_ok hD' hn') hk
  · rw [numK_above hD' hn']; exact ⟨he, hR, hg⟩
  · rw [numK_bad hD' hk]; exact ⟨he, hR, hg⟩

def textK (b : ByteArray) (p most : Nat) : Nat := if numK b p most 23 ≠ 0 then numK b p most 23 else if b.size < numQ b p + numV b p then 20 else 0
def textV (b : ByteArray) (p : Nat) : ByteArray := b.extract (numQ b p) (numQ b p + numV b p)

theorem num_parts (b : ByteArray) (p most : Nat) (hp : p ≤ b.size) (h : numK b p most 23 = 0) : Pk.dec 0 0 (rest b p) = (0, numV b p, numQ b p - p) ∧ numV b p ≤ most ∧ p < numQ b p ∧ numQ b p ≤ b.size := by
  unfold numK at h
  by_cases h1 : (Pk.dec 0 0 (rest b p)).1 = 0
  · rw [if_neg (by simpa using h1)] at h
    have hD : Pk.dec 0 0 (rest b p) = (0, (Pk.dec 0 0 (rest b p)).2.1, (Pk.dec 0 0 (rest b p)).2.2) := Prod.ext h1 rfl
    obtain ⟨l1, l2⟩ := Pk.dec_le _ _ _ _ _ hD (by decide)
    rw [rest_len] at l2
    have hmost : ¬ most < (Pk.dec 0 0 (rest b p)).2.1 := fun hh => by rw [if_pos hh] at h; cases h
    unfold numV numQ
    refine ⟨?_, by omega, by omega, by omega⟩
    rw [show p + (Pk.dec 0 0 (rest b p)).2.2 - p = (Pk.dec 0 0 (rest b p)).2.2 by omega]
    exact hD
  · rw [if_pos (by simpa using h1)] at h
    exact absurd h h1

set_option maxHeartbeats 400000 in
set_option maxRecDepth 8000 in
theorem text1_any {w : World} {B X Y p : Nat} {most : Int} {b : ByteArray} (h : Rd w B b p 0) (hp : p ≤ b.size) (hb : b.size ≤ 140737488351232) (hm : most ≤ 9223372036854775807)
    (hX : w.cell? ⟨X, 0, none⟩ = some (.pointer (some ⟨B, 0, none⟩))) (hY : w.cell? ⟨Y, 0, none⟩ = some (.int .i64 most)) (hXB : X ≠ B) (hYB : Y ≠ B) :
    Calls Try.prog 88 #[.pointer (some ⟨X, 0, none⟩), .pointer (some ⟨Y, 0, none⟩)] w (RPost w B b (.string (textV b p)) (numQ b p + numV b p) (textK b p most.toNat)) := by
  by_cases hk : numK b p most.toNat 23 = 0
  · obtain ⟨hD, hn, hq1, hq2⟩ := num_parts b p most.toNat hp hk
    have HD : Hid (Pk.dec 0 0 (rest b p) = (0, numV b p, numQ b p - p)) := hD
    by_cases hs : numQ b p + numV b p ≤ b.size
    · have HK : Hid (textK b p most.toNat = 0) := (show textK b p most.toNat = 0 by unfold textK; rw [if_neg (by simpa using hk), if_neg (by omega)])
      have HT : Hid (textV b p = b.extract (numQ b p) (numQ b p + numV b p)) := (show textV b p = _ from rfl)
      generalize numQ b p = Q at *
      generalize numV b p = V at *
      generalize textV b p = T at *
      clear hk hD
      go_enter Try.func88, Try.ntmps88
      go_wp2_with fail
      go_region_held3 (fun w' => w'.cell? ⟨X, 0, none⟩ = some (.pointer (some ⟨B, 0, none⟩)) ∧ w'.cell? ⟨Y, 0, none⟩ = some (.int .i64 most)) (go_keep) (first
        | (go_at_call 90; refine (count_ok (h.drew _) hp hb hm HD.out hn).mono ?_; rintro e w1 ⟨rfl, hR1, hg1⟩; have hX1 : w1.cell? ⟨X, 0, none⟩ = some (.pointer (some ⟨B, 0, none⟩)) := hg1.cell hX (by simpa using hXB); have hY1 : w1.cell? ⟨Y, 0, none⟩ = some (.int .i64 most) := hg1.cell hY (by simpa using hYB))
        | (go_at_call 86; refine (take_any hR1 (by omega) (by omega) hb (by omega) (by omega)).mono ?_; rintro e w2 ⟨rfl, hR2, hg2⟩; have hX2 : w2.cell? ⟨X, 0, none⟩ = some (.pointer (some ⟨B, 0, none⟩)) := hg2.cell hX1 (by simpa using hXB); have hY2 : w2.cell? ⟨Y, 0, none⟩ = some (.int .i64 most) := hg2.cell hY1 (by simpa using hYB))
        | (go_at_call 89; refine (clone_any _ _ (by rw [ByteArray.size_extract]; omega)).mono ?_; rintro e w3 ⟨rfl, hb3⟩; have hX3 : w3.cell? ⟨X, 0, none⟩ = some (.pointer (some ⟨B, 0, none⟩)) := (hb3.cell (World.block_lt_of_cell? _ _ hX2)).trans hX2; have hY3 : w3.cell? ⟨Y, 0, none⟩ = some (.int .i64 most) := (hb3.cell (World.block_lt_of_cell? _ _ hY2)).trans hY2))
      go_wp2
      go_ret
      exact .inl ⟨HK.out, by rw [HT.out]; exact congrArg Ending.returned (congrArg Value.string (show b.extract ((p : Int) + ((Q - p : Nat) : Int)).toNat ((p : Int) + ((Q - p : Nat) : Int) + (V : Int)).toNat = _ by congr 1 <;> omega)),
        by have := hR2.below hb3 hR2.lt; rw [show ((Q + V : Nat) : Int) = ((p + (Q - p) : Nat) : Int) + (V : Int) by omega]; exact this, grown_trans (grown_drew w 1 _) (grown_trans hg1 (grown_trans hg2 (grown_below hb3 _)))⟩
    · have HK : Hid (textK b p most.toNat = 20) := (show textK b p most.toNat = 20 by unfold textK; rw [if_neg (by simpa using hk), if_pos (by omega)])
      generalize numQ b p = Q at *
      generalize numV b p = V at *
      clear hk hD
      go_enter Try.func88, Try.ntmps88
      go_wp2_with fail
      refine wp_region_held_drew (S := fun w' => w'.cell? ⟨X, 0, none⟩ = some (.pointer (some ⟨B, 0, none⟩)) ∧ w'.cell? ⟨Y, 0, none⟩ = some (.int .i64 most)) (by kernel_rfl) ⟨hX, hY⟩ (fun hHeld => ?_)
      refine wpAnyH_take (i := 0) (v := .pointer (some ⟨B, 0, none⟩)) rfl (by kernel_rfl) (by kernel_rfl) (by kernel_rfl) (fun _ _ _ h => h) (Or.inl ⟨by rfl, fun w1 hSw => by have hS1 := hSw.1; clear hHeld; go_simp⟩) hHeld ?_
      simp only [Act.put, List.setIfInBounds_toArray]
      refine wpAnyH_take (i := 1) (v := .pointer (some ⟨B, 0, none⟩)) rfl (by kernel_rfl) (by kernel_rfl) (by kernel_rfl) (fun _ _ _ h => h) (Or.inl ⟨by rfl, fun w1 hSw => by have hS1 := hSw.1; clear hHeld; go_simp⟩) hHeld ?_
      simp only [Act.put]
      refine wpAnyH_take (i := 2) (v := .int .i64 most) rfl (by kernel_rfl) (by kernel_rfl) (by kernel_rfl) (fun _ _ _ h => h) (Or.inl ⟨by rfl, fun w1 hSw => by have hS1 := hSw.2; clear hHeld; go_simp⟩) hHeld ?_
      simp only [Act.put]
      refine wpAnyH_ready (rs := [3]) (by kernel_rfl) (by simp) ?_
      refine AllReadyH.cons rfl (fun K hK => ?_) AllReadyH.nil
      go_simp
      refine (count_ok (h.drew 1) hp hb hm HD.out hn).mono ?_
      rintro e w1 ⟨rfl, hR1, hg1⟩
      have hX1 : w1.cell? ⟨X, 0, none⟩ = some (.pointer (some ⟨B, 0, none⟩)) := hg1.cell hX (by simpa using hXB)
      have hY1 : w1.cell? ⟨Y, 0, none⟩ = some (.int .i64 most) := hg1.cell hY (by simpa using hYB)
      refine hK.out _ _ ⟨hX1, hY1⟩ (fun hHeld => ?_)
      refine wpAnyH_ready (rs := [4]) (by kernel_rfl) (by simp) ?_
      refine AllReadyH.cons rfl (fun K hK => ?_) AllReadyH.nil
      go_simp
      refine (take_short hR1 (by omega) (by omega) hb (by omega)).mono ?_
      rintro e w2 ⟨he, n2, rfl⟩
      unfold Gives at he
      subst he
      exact ⟨rfl, .inr ⟨by rw [HK.out]; decide, by rw [HK.out]; rfl, ⟨_, hR1.drew n2⟩, grown_trans (grown_drew w 1 _) (grown_trans hg1 (grown_drew _ _ _))⟩⟩
  · have HK : Hid (textK b p most.toNat = numK b p most.toNat 23) := (show textK b p most.toNat = _ by unfold textK; rw [if_pos hk])
    go_enter Try.func88, Try.ntmps88
    go_wp2_with fail
    refine wp_region_held_drew (S := fun w' => w'.cell? ⟨X, 0, none⟩ = some (.pointer (some ⟨B, 0, none⟩)) ∧ w'.cell? ⟨Y, 0, none⟩ = some (.int .i64 most)) (by kernel_rfl) ⟨hX, hY⟩ (fun hHeld => ?_)
    refine wpAnyH_take (i := 0) (v := .pointer (some ⟨B, 0, none⟩)) rfl (by kernel_rfl) (by kernel_rfl) (by kernel_rfl) (fun _ _ _ h => h) (Or.inl ⟨by rfl, fun w1 hSw => by have hS1 := hSw.1; clear hHeld; go_simp⟩) hHeld ?_
    simp only [Act.put, List.setIfInBounds_toArray]
    refine wpAnyH_take (i := 1) (v := .pointer (some ⟨B, 0, none⟩)) rfl (by kernel_rfl) (by kernel_rfl) (by kernel_rfl) (fun _ _ _ h => h) (Or.inl ⟨by rfl, fun w1 hSw => by have hS1 := hSw.1; clear hHeld; go_simp⟩) hHeld ?_
    simp only [Act.put]
    refine wpAnyH_take (i := 2) (v := .int .i64 most) rfl (by kernel_rfl) (by kernel_rfl) (by kernel_rfl) (fun _ _ _ h => h) (Or.inl ⟨by rfl, fun w1 hSw => by have hS1 := hSw.2; clear hHeld; go_simp⟩) hHeld ?_
    simp only [Act.put]
    refine wpAnyH_ready (rs := [3]) (by kernel_rfl) (by simp) ?_
    refine AllReadyH.cons rfl (fun K hK => ?_) AllReadyH.nil
    go_simp
    refine (count_no (h.drew 1) hp hb hm hk).mono ?_
    rintro e w1 ⟨he, ⟨q1, hR1⟩, hg1⟩
    unfold Gives at he
    subst he
    exact ⟨rfl, .inr ⟨by rw [HK.out]; exact hk, by rw [HK.out]; rfl, ⟨_, hR1⟩, grown_trans (grown_drew w 1 _) hg1⟩⟩
end Go.Proofs.Ytapcmmljdpallaa
